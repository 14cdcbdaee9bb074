/- What taking keeps: a place is taken and its sector told by a closure; at this translation. -/
import Derived.Test.YtoakjcmhmlngfaaLb17
namespace Go.Proofs.Ytoakjcmhmlngfaa
open Go.RowKit

structure Tk (w : World) (p q r : Nat) (l : Lay) (mb off c : Nat) (v : Value) (M : List (List UInt8)) (S : List Int) : Prop where
  lay : LayAt w p l
  mq : w.cell? ⟨q, 0, none⟩ = some (.slice (some ⟨mb, off, none⟩) 4 c)
  mrow : RG w 1 encT (.slice (some ⟨mb, off, none⟩) 4 c) M
  sr : w.cell? ⟨r, 0, none⟩ = some v
  srf : w.frozen? ⟨r, 0, none⟩ = false
  srow : RG w 1 encI v S
  ne : p ≠ r ∧ p ≠ mb ∧ q ≠ r ∧ q ≠ mb ∧ r ≠ mb
  nv : ∀ g, blk v = some g → g ≠ p ∧ g ≠ q ∧ g ≠ r ∧ g ≠ mb
theorem Tk.below {w w' : World} {p q r mb off c : Nat} {l : Lay} {v : Value} {M : List (List UInt8)} {S : List Int} (h : Tk w p q r l mb off c v M S) (b : Below w.heap.size w w') : Tk w' p q r l mb off c v M S :=
  ⟨h.lay.below b, (b.cell (p := ⟨q, 0, none⟩) (lt_of_cell h.mq)).trans h.mq, h.mrow.below b, (b.cell (p := ⟨r, 0, none⟩) (lt_of_cell h.sr)).trans h.sr, ((Mod.of_below (S := fun _ => False) b).frozen (p := ⟨r, 0, none⟩) (lt_of_cell h.sr) id).trans h.srf, h.srow.below b, h.ne, h.nv⟩
/-- A map is put. -/
theorem Tk.put {w : World} {p q r mb off c : Nat} {l : Lay} {v : Value} {M : List (List UInt8)} {S : List Int} (h : Tk w p q r l mb off c v M S) {z : Nat} (hz : z < M.length) (s : List UInt8) : Tk (w.setCell ⟨mb, off + z, none⟩ (.string (str s))) p q r l mb off c v (M.set z s) S := by
  have m := (Mod.refl (· = mb) w).set1 (o := off + z) (.string (str s))
  have hr : RG (w.setCells mb (off + z * 1) (encT s)) 1 encT (.slice (some ⟨mb, off, none⟩) 4 c) (M.set z s) := RG.set encT_ok h.mrow hz s
  rw [Nat.mul_one] at hr
  obtain ⟨n1, n2, n3, n4, n5⟩ := h.ne
  exact ⟨h.lay.later m n2, (m.cell (p := ⟨q, 0, none⟩) (lt_of_cell h.mq) n4).trans h.mq, hr, (m.cell (p := ⟨r, 0, none⟩) (lt_of_cell h.sr) n5).trans h.sr, (m.frozen (p := ⟨r, 0, none⟩) (lt_of_cell h.sr) n5).trans h.srf, h.srow.later m (fun g hg e => (h.nv g hg).2.2.2 e), h.ne, h.nv⟩
structure TkTo (w w' : World) (r mb : Nat) (v v' : Value) : Prop where
  mod : Mod (fun b => b = r ∨ b = mb ∨ blk v = some b) w w'
  new : ∀ g, blk v' = some g → blk v = some g ∨ w.heap.size ≤ g
def Lv (p r : Nat) (l : Lay) (v : Value) (u : World) : Prop := LayAt u p l ∧ u.cell? ⟨r, 0, none⟩ = some v
theorem lv_in {p r : Nat} {l : Lay} {v : Value} {u : World} (h : Lv p r l v u) : Nonempty (In (Lv p r l v)) := ⟨⟨u, h⟩⟩
theorem Tk.lv {w : World} {p q r mb off c : Nat} {l : Lay} {v : Value} {M : List (List UInt8)} {S : List Int} (h : Tk w p q r l mb off c v M S) : Lv p r l v w := ⟨h.lay, h.sr⟩
set_option maxRecDepth 100000 in
set_option maxHeartbeats 8000000 in
theorem gather_any {w : World} {p q r mb off c : Nat} {l : Lay} {v : Value} {M : List (List UInt8)} {S : List Int} (h : Tk w p q r l mb off c v M S) (hk : layOk l = true) (hS : S.length ≤ 20000) (z : Nat) (hz : z < 4) (h4 : M.length = 4) (s : List UInt8) (hs : M[z]? = some s) (hsl : s.length ≤ 100000) (pl : Nat) (hpl : pl ≤ 100000) :
    Calls Try.prog 20 #[.int .i64 (z : Int), .int .i64 (pl : Int), .pointer (some ⟨q, 0, none⟩), .pointer (some ⟨r, 0, none⟩), .pointer (some ⟨p, 0, none⟩)] w fun e w' => e = .returned (.tuple #[]) ∧ ∃ v', Tk w' p q r l mb off c v' (M.set z (Bm.set s pl true)) (S ++ [l.f + z * l.z + pl]) ∧ TkTo w w' r mb v v' := by
  have H := Lib.hid h
  have hm := h.mq
  have hd := h.mrow.cell encT_ok hs (j := 0) rfl
  rw [Nat.mul_one, Nat.add_zero] at hd
  obtain ⟨d0, d1⟩ := hd
  have hql := lt_of_cell hm
  have hml := lt_of_cell d0
  obtain ⟨A5, c5, rfl⟩ := h.srow.shape
  obtain ⟨sn, Hsn⟩ : ∃ sn, Hid (S.length = sn) := ⟨_, Lib.hid rfl⟩
  rw [Hsn.out] at H hS ⊢
  obtain ⟨X, HX⟩ : ∃ X, Hid (l.f + z * l.z = X ∧ 0 ≤ X ∧ X ≤ 100000) := ⟨_, Lib.hid ⟨rfl, by have := mul_bds (LayOk.of hk) hz; have := (LayOk.of hk).fb; omega⟩⟩
  rw [HX.out.1]
  have hz0 : (z : Int) < 4 := by omega
  clear h
  go_enter Try.func20, Try.ntmps20
  go_wp2_with fail
  have q0 : ∀ y : In (Abv w), y.u.cell? ⟨q, 0, none⟩ = some (.slice (some ⟨mb, off, none⟩) 4 c) := fun y => (y.is.cell (p := ⟨q, 0, none⟩) hql).trans hm
  have q1 : ∀ y : In (Abv w), y.u.cell? ⟨mb, off + z, none⟩ = some (.string (str s)) := fun y => (y.is.cell (p := ⟨mb, off + z, none⟩) hml).trans d0
  refine wp_region_mix (by kernel_rfl) (Cls (Abv w)) [(0, 0), (1, 0), (2, 0), (3, 0), (4, 0), (5, 0), (6, 0), (7, 1), (8, 0), (9, 2)] (by kernel_rfl) (cls (Below.refl _ _).drew) ?_
  repeat (refine mix0 rfl (fun K hK => ?_); go_simp; refine hK _ ?_; clear hK K)
  refine mix1 rfl (fun K hK => ?_)
  go_simp
  refine (Set_any s hsl (pl : Int) true _).mono ?_
  rw [Bm.setI_nat]
  rintro e w1 ⟨rfl, b1⟩
  have B1 : Hid (Below w.heap.size w w1) := Lib.hid ((Below.refl _ _).drew.trans (b1.mono (Nat.le_refl _)))
  refine ⟨_, rfl, hK _ _ (cls B1.out) ?_⟩
  clear hK K b1
  repeat (refine mix0 rfl (fun K hK => ?_); go_simp; refine hK _ ?_; clear hK K)
  have g0 : w1.cell? ⟨mb, off + z, none⟩ = some (.string (str s)) := (B1.out.cell (p := ⟨mb, off + z, none⟩) hml).trans d0
  have g1 : w1.frozen? ⟨mb, off + z, none⟩ = false := ((Mod.of_below (S := fun _ => False) B1.out).frozen (p := ⟨mb, off + z, none⟩) hml id).trans d1
  refine mix2 rfl (fun K hK => ?_)
  go_simp
  refine hK _ _ ?_
  clear hK K
  refine mixEnd ?_
  clear q0 q1
  obtain ⟨s2, Hs2⟩ : ∃ x, Hid (Bm.set s pl true = x) := ⟨_, Lib.hid rfl⟩
  rw [Hs2.out]
  obtain ⟨w2, Hw2⟩ : ∃ u, Hid (w1.setCell ⟨mb, off + z, none⟩ (.string (str s2)) = u) := ⟨_, Lib.hid rfl⟩
  rw [Hw2.out]
  have T2 : Hid (Tk w2 p q r l mb off c (.slice A5 sn c5) (M.set z s2) S ∧ Mod (fun b => b = mb) w w2) := Lib.hid (by
    rw [← Hw2.out]
    exact ⟨(H.out.below B1.out).put (by omega) s2, ((Mod.of_below (S := fun b => b = mb) B1.out)).set1 _⟩)
  clear g0 g1 d0 d1 hm hql hml
  go_wp2_with fail
  have hT : Lv p r l (.slice A5 sn c5) w2 := T2.out.1.lv
  have hTd : Lv p r l (.slice A5 sn c5) w2.drew := (T2.out.1.below (Below.refl _ _).drew).lv
  haveI := lv_in hT
  refine wp_region_mix (by kernel_rfl) (Cls (Lv p r l (.slice A5 sn c5))) [(0, 0), (1, 0), (2, 0), (4, 0), (3, 1), (5, 0), (6, 1), (7, 1), (8, 2)] (by kernel_rfl) (cls hTd) ?_
  have q0 : ∀ u : In (Lv p r l (.slice A5 sn c5)), u.u.cell? ⟨p, 0, none⟩ = some (.int .i64 l.s) := fun u => u.is.1.c0
  have q1 : ∀ u : In (Lv p r l (.slice A5 sn c5)), u.u.cell? ⟨p, 1, none⟩ = some (.int .i64 l.n) := fun u => u.is.1.c1
  have q2 : ∀ u : In (Lv p r l (.slice A5 sn c5)), u.u.cell? ⟨p, 2, none⟩ = some (.int .i64 l.f) := fun u => u.is.1.c2
  have q3 : ∀ u : In (Lv p r l (.slice A5 sn c5)), u.u.cell? ⟨p, 3, none⟩ = some (.int .i64 l.z) := fun u => u.is.1.c3
  have q4 : ∀ u : In (Lv p r l (.slice A5 sn c5)), u.u.cell? ⟨r, 0, none⟩ = some (.slice A5 sn c5) := fun u => u.is.2
  repeat (refine mix0 rfl (fun K hK => ?_); go_simp; refine hK _ ?_; clear hK K)
  refine mix1 rfl (fun K hK => ?_)
  go_simp
  refine (Begin_any l (z : Int) _).mono ?_
  rw [layP_ok hk hz, Int.add_zero, HX.out.1]
  rintro e w3 ⟨rfl, b3⟩
  have B3 : Hid (Below w2.heap.size w2 w3) := Lib.hid ((Below.refl _ _).drew.trans (b3.mono (Nat.le_refl _)))
  have T3 := Lib.hid (T2.out.1.below B3.out)
  refine ⟨_, rfl, hK _ _ (cls T3.out.lv) ?_⟩
  clear hK K b3
  have X0 := HX.out.2.1
  have X1 := HX.out.2.2
  have hwr : IntKind.i64.wrap (X + (pl : Int)) = X + pl := IntWalk.i64_in _ (by omega)
  repeat (refine mix0 rfl (fun K hK => ?_); go_simp; refine hK _ ?_; clear hK K)
  obtain ⟨Y, HY⟩ : ∃ Y, Hid (X + (pl : Int) = Y) := ⟨_, Lib.hid rfl⟩
  rw [HY.out]
  obtain ⟨U, HU⟩ : ∃ U, Hid (w3.alloc (.cells #[.int .i64 Y] 3) = U) := ⟨_, Lib.hid rfl⟩
  obtain ⟨sz, Hs⟩ : ∃ s, Hid (w3.heap.size = s) := ⟨_, Lib.hid rfl⟩
  have hbU : Below w3.heap.size w3 U := by rw [← HU.out]; exact balloc (Below.refl _ _) _
  have hI : IsG U 1 encI (some ⟨sz, 0, none⟩) 1 [Y] := by rw [← HU.out, ← Hs.out]; exact i_one w3 Y
  have TU := Lib.hid (T3.out.below hbU)
  refine mix1 rfl (fun K hK => ?_)
  go_simp
  rw [HU.out, Hs.out]
  refine hK _ _ (cls TU.out.lv) ?_
  clear hK K
  obtain ⟨v2, w5, hr2, r2, a2⟩ := appG iInf encI_ok TU.out.srow (c := 1) hI (by rw [Hsn.out]; omega) (by decide) 30
  have A2 := Lib.hid a2
  have nvb : Hid (∀ x, x = p ∨ x = q ∨ x = r ∨ x = mb → ¬ blk (.slice A5 sn c5) = some x) := Lib.hid (fun x hx e => by
    obtain ⟨n1, n2, n3, n4⟩ := TU.out.nv x e
    rcases hx with h | h | h | h
    · exact n1 h
    · exact n2 h
    · exact n3 h
    · exact n4 h)
  have N5 : Hid (LayAt w5 p l ∧ w5.cell? ⟨q, 0, none⟩ = some (.slice (some ⟨mb, off, none⟩) 4 c) ∧ RG w5 1 encT (.slice (some ⟨mb, off, none⟩) 4 c) (M.set z s2) ∧ w5.cell? ⟨r, 0, none⟩ = some (.slice A5 sn c5) ∧ w5.frozen? ⟨r, 0, none⟩ = false ∧ RG w5 1 encI v2 (S ++ [Y])) := Lib.hid
    ⟨TU.out.lay.later A2.out.mod (nvb.out p (.inl rfl)), (A2.out.mod.cell (p := ⟨q, 0, none⟩) (lt_of_cell TU.out.mq) (nvb.out q (.inr (.inl rfl)))).trans TU.out.mq,
      TU.out.mrow.later A2.out.mod (fun g hg => by cases hg; exact nvb.out mb (.inr (.inr (.inr rfl)))),
      (A2.out.mod.cell (p := ⟨r, 0, none⟩) (lt_of_cell TU.out.sr) (nvb.out r (.inr (.inr (.inl rfl))))).trans TU.out.sr,
      (A2.out.mod.frozen (p := ⟨r, 0, none⟩) (lt_of_cell TU.out.sr) (nvb.out r (.inr (.inr (.inl rfl))))).trans TU.out.srf, r2⟩
  have f0 := N5.out.2.2.2.1
  have f1 := N5.out.2.2.2.2.1
  have hL5 : Lv p r l (.slice A5 sn c5) w5 := ⟨N5.out.1, f0⟩
  have n2 : ∀ g, blk v2 = some g → blk (.slice A5 sn c5) = some g ∨ U.heap.size ≤ g := fun g e => by
    rcases A2.out.blk with e2 | ⟨g2, e2, h2⟩
    · exact .inl (e2 ▸ e)
    · rw [e2] at e
      obtain rfl := Option.some.inj e
      exact .inr h2
  have Hn2 := Lib.hid n2
  obtain ⟨A6, c6, rfl⟩ : ∃ A6 c6, v2 = .slice A6 (sn + 1) c6 := by
    obtain ⟨A6, c6, e⟩ := r2.shape
    exact ⟨A6, c6, by rw [e, List.length_append, Hsn.out]; rfl⟩
  refine mix_append rfl rfl (.tmp 16) (.tmp 22) 30 rfl hr2 (cls hL5) ?_
  clear r2 a2 n2 hL5 hI hbU hT hTd q0 q1 q2 q3 q4
  refine mix2 rfl (fun K hK => ?_)
  go_simp
  refine hK _ _ ?_
  clear hK K
  refine mixEnd ?_
  obtain ⟨w6, Hw6⟩ : ∃ u, Hid (w5.setCell ⟨r, 0, none⟩ (.slice A6 (sn + 1) c6) = u) := ⟨_, Lib.hid rfl⟩
  rw [Hw6.out]
  have hUsz : U.heap.size = w3.heap.size + 1 := by rw [← HU.out]; simp
  have F : Hid (Tk w6 p q r l mb off c (.slice A6 (sn + 1) c6) (M.set z s2) (S ++ [Y]) ∧ TkTo w w6 r mb (.slice A5 sn c5) (.slice A6 (sn + 1) c6)) := Lib.hid (by
    have m6 := (Mod.refl (· = r) w5).set1 (o := 0) (.slice A6 (sn + 1) c6)
    rw [Hw6.out] at m6
    obtain ⟨n1, n2, n3, n4, n5⟩ := H.out.ne
    have hlp := H.out.lay.lt
    have hlq := lt_of_cell H.out.mq
    have hlr := lt_of_cell H.out.sr
    have hlm : mb < w.heap.size := H.out.mrow.lt (g := mb) rfl
    have s1 := T2.out.2.size
    have s2 := B3.out.size
    have nv6 : ∀ g, blk (.slice A6 (sn + 1) c6) = some g → g ≠ p ∧ g ≠ q ∧ g ≠ r ∧ g ≠ mb := fun g e => by
      rcases Hn2.out g e with e | e
      · exact TU.out.nv g e
      · exact ⟨by omega, by omega, by omega, by omega⟩
    refine ⟨⟨N5.out.1.later m6 n1, (m6.cell (p := ⟨q, 0, none⟩) (lt_of_cell N5.out.2.1) n3).trans N5.out.2.1, N5.out.2.2.1.later m6 (fun g hg e => by cases hg; exact n5 e.symm), by rw [← Hw6.out]; exact set_same f0, by rw [← Hw6.out]; exact set_frozen f1, N5.out.2.2.2.2.2.later m6 (fun g hg e => (nv6 g hg).2.2.1 e), H.out.ne, nv6⟩, ⟨?_, fun g e => ?_⟩⟩
    · have m2 := T2.out.2.mono (T := fun b => b = r ∨ b = mb ∨ blk (.slice A5 sn c5) = some b) (fun k _ e => .inr (.inl e))
      have m3 := m2.trans (Mod.of_below B3.out)
      have m4 := m3.trans (Mod.of_below (by have := balloc (Below.refl w3.heap.size w3) (.cells #[.int .i64 Y] 3); rw [HU.out] at this; exact this))
      have m5 := m4.trans (A2.out.mod.mono fun k _ e => .inr (.inr e))
      exact m5.trans (m6.mono fun k _ e => .inl e)
    · rcases Hn2.out g e with e | e
      · exact .inl e
      · exact .inr (by omega))
  go_wp2
  exact bodyPost_end (results_none rfl _ _ _) rfl ⟨rfl, .slice A6 (sn + 1) c6, by rw [Hs2.out, HY.out]; exact F.out.1, F.out.2⟩
end Go.Proofs.Ytoakjcmhmlngfaa
