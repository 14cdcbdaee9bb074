/- Queues that may be: what Check tells of them. -/
import Derived.Test.YthpmodohfjjjcaaSv9
namespace Go.Proofs.Ythpmodohfjjjcaa
open Go.RowKit

def okC (c : Cl) : Prop := 0 ≤ c.1 ∧ c.1 < 8 ∧ (c.2 = 1 ∨ c.2 = 2)
/-- A queue that may be. -/
structure OkQ (h ws : List Cl) : Prop where
  rising : h.Pairwise (fun a b => a.1 < b.1)
  has : ∀ c ∈ h, okC c
  waits : ∀ c ∈ ws, okC c
  once : ws.Pairwise (fun a b => a.1 ≠ b.1)
  safe : SafeP h
  front : ∀ c, ws[0]? = some c → fitsM h c = false
theorem okC_str {c : Cl} (h : okC c) : strB c = false := by
  obtain ⟨h0, h1, h2⟩ := h
  have ht : thereB c.1 = true := by simp [thereB, h0, h1]
  have hs : somB c.2 = true := by rcases h2 with e | e <;> rw [e] <;> rfl
  simp [strB, ht, hs]
theorem ok_strange {l : List Cl} (h : ∀ c ∈ l, okC c) : l.any strB = false := List.any_eq_false.2 fun c hc => by simp [okC_str (h c hc)]
set_option maxRecDepth 100000 in
set_option maxHeartbeats 1000000 in
theorem rising_any (w : World) (A : Option Addr) (n cp : Nat) (l : List Cl) (hl : IsC w A n l) (hr : l.Pairwise (fun a b => a.1 < b.1)) :
    Calls Try.prog 92 #[.slice A n cp] w fun e w' => e = .returned (.bool true) ∧ Below w.heap.size w w' := by
  have hn := hl.small
  have Hl := Lib.hid hl
  have Hr := Lib.hid hr
  clear hl hr
  go_enter Try.func92, Try.ntmps92
  go_wp2
  go_loopw [3] (fun i wr => ∃ k : Nat, i = .int .i64 (k : Int) ∧ 1 ≤ k ∧ k ≤ n + 1 ∧ Hid (Below w.heap.size w wr)) (fun i _ => n + 1 - (intOf i).toNat)
  case atStart => exact ⟨1, rfl, by omega, by omega, Lib.hid (Below.refl _ _)⟩
  case round =>
    obtain ⟨k, rfl, hk1, hk, HB⟩ := hrel
    by_cases hlt : k < n
    · obtain ⟨j, hjk⟩ : ∃ j, k = j + 1 := ⟨k - 1, by omega⟩
      obtain ⟨x, hx⟩ : ∃ x, l[j]? = some x := ⟨_, List.getElem?_eq_getElem (by rw [Hl.out.length]; omega)⟩
      obtain ⟨y, hy⟩ : ∃ x, l[k]? = some x := ⟨_, List.getElem?_eq_getElem (by rw [Hl.out.length]; omega)⟩
      obtain ⟨g, off, rfl, hg, hcs⟩ := (Hl.out.below HB.out).cells (by omega)
      have hxy : x.1 < y.1 := by
        obtain ⟨h1, e1⟩ := List.getElem?_eq_some_iff.1 hx
        obtain ⟨h2, e2⟩ := List.getElem?_eq_some_iff.1 hy
        have := List.pairwise_iff_getElem.1 Hr.out j k h1 h2 (by omega)
        rw [e1, e2] at this
        exact this
      have hxy2 : ¬ y.1 ≤ x.1 := by omega
      obtain ⟨c0, _⟩ := hcs j x hx
      obtain ⟨d0, _⟩ := hcs k y hy
      have q0 : ∀ u : In (Abv wr), u.u.cell? ⟨g, off + j * 2, none⟩ = some (.int .i64 x.1) := fun u => (u.is.cell (p := ⟨g, off + j * 2, none⟩) hg).trans c0
      have q1 : ∀ u : In (Abv wr), u.u.cell? ⟨g, off + k * 2, none⟩ = some (.int .i64 y.1) := fun u => (u.is.cell (p := ⟨g, off + k * 2, none⟩) hg).trans d0
      have i1 : IntKind.i64.wrap ((k : Int) - 1) = (j : Int) := by rw [IntKind.wrap_i64]; omega
      have i2 : (j : Int) < (n : Int) := by omega
      have i3 : (k : Int) < (n : Int) := by omega
      have i4 : j < n := by omega
      clear hx hy hcs c0 d0 hxy hjk
      go_wp2_with fail
      refine wp_region_mix (by kernel_rfl) (Cls (Abv wr)) [(0, 0), (1, 0), (2, 0), (3, 0), (4, 0), (5, 0), (6, 0), (7, 0), (8, 0), (9, 0), (10, 0), (11, 0)] (by kernel_rfl) (cls (Below.refl _ wr).drew) ?_
      repeat (refine mix0 rfl (fun K hK => ?_); go_simp; refine hK _ ?_; clear hK K)
      refine mixEnd ?_
      have HB2 : Hid (Below w.heap.size w wr.drew) := Lib.hid (bnext HB.out (drew_same _))
      clear q0 q1
      go_wp2
      go_roundw
      case rel => exact ⟨k + 1, by go_num, by omega, by omega, HB2⟩
      case measure => simp [intOf]; omega
    · have hkn : ¬ ((k : Int) < (n : Int)) := by omega
      go_wp2
      go_ret
      exact ⟨rfl, HB.out⟩
set_option maxRecDepth 100000 in
set_option maxHeartbeats 1000000 in
theorem twice_any (w : World) (A : Option Addr) (n cp : Nat) (l : List Cl) (hl : IsC w A n l) (hr : l.Pairwise (fun a b => a.1 ≠ b.1)) :
    Calls Try.prog 93 #[.slice A n cp] w fun e w' => e = .returned (.bool false) ∧ Below w.heap.size w w' := by
  have hn := hl.small
  have Hl := Lib.hid hl
  have Hr := Lib.hid hr
  clear hl hr
  go_enter Try.func93, Try.ntmps93
  go_wp2
  go_loopw [3, 4, 7] (fun _ _ i wr => ∃ k : Nat, i = .int .i64 (k : Int) ∧ k ≤ n ∧ Hid (Below w.heap.size w wr)) (fun _ _ i _ => n - (intOf i).toNat)
  case atStart => exact ⟨0, rfl, by omega, Lib.hid (Below.refl _ _)⟩
  case round =>
    obtain ⟨k, rfl, hk, HB⟩ := hrel
    by_cases hlt : k < n
    · obtain ⟨x, hx⟩ : ∃ x, l[k]? = some x := ⟨_, List.getElem?_eq_getElem (by rw [Hl.out.length]; omega)⟩
      obtain ⟨g, off, rfl, hg, hcs⟩ := (Hl.out.below HB.out).cells (by omega)
      obtain ⟨c0, c1⟩ := hcs k x hx
      have hid : idxM (ofQ x.1) l = (k : Int) := by
        refine idx_at hx ?_ (by simp [ofQ])
        obtain ⟨h1, e1⟩ := List.getElem?_eq_some_iff.1 hx
        rw [List.any_eq_false]
        intro c hc
        obtain ⟨j, hj, rfl⟩ := List.getElem_of_mem hc
        rw [List.length_take] at hj
        have := List.pairwise_iff_getElem.1 Hr.out j k (by omega) h1 (by omega)
        rw [e1] at this
        rw [List.getElem_take]
        simpa [ofQ] using this
      have hkn : (k : Int) < (n : Int) := by omega
      obtain ⟨W, HW⟩ : ∃ W, Hid (wr.alloc (.cells #[.int .i64 x.1, .int .i64 x.2] 61) = W) := ⟨_, Lib.hid rfl⟩
      obtain ⟨p, Hp⟩ : ∃ W, Hid (wr.heap.size = W) := ⟨_, Lib.hid rfl⟩
      have HBW : Hid (Below wr.heap.size wr W) := Lib.hid (by rw [← HW.out]; exact balloc (Below.refl _ _) _)
      have HI := Lib.hid (of_index (W.alloc (.cells #[.int .i64 x.1] 3)) (some ⟨g, off, none⟩) n cp l (((Hl.out.below HB.out).below HBW.out).below (balloc (Below.refl _ _) _)) W.heap.size x.1 (by simp [go_sem]))
      rw [hid] at HI
      have Hy0 : Hid (W.cell? ⟨p, 0, none⟩ = some (.int .i64 x.1)) := Lib.hid (by rw [← HW.out, ← Hp.out]; simp [go_sem])
      clear hx hcs hid
      go_wp2_with fail
      rw [HW.out]
      refine (of_any W x.1).mono ?_
      rintro e w2 ⟨rfl, rfl⟩
      clear c0 c1
      go_wp2_with fail
      refine HI.out.mono ?_
      rintro e w3 ⟨rfl, hb⟩
      have HB2 : Hid (Below w.heap.size w w3) := Lib.hid (bnext HB.out (bnext HBW.out (bnext (balloc (Below.refl _ _) _) hb)))
      have hkk : ¬ ((k : Int) < (k : Int)) := by omega
      clear hb
      go_wp2
      go_roundw
      case rel => exact ⟨k + 1, by go_num, by omega, HB2⟩
      case measure => simp [intOf]; omega
    · have hkn : ¬ ((k : Int) < (n : Int)) := by omega
      go_wp2
      go_ret
      exact ⟨rfl, HB.out⟩
/-- A queue, as it comes in. -/
structure IsQ (w : World) (v : Value) (h ws : List Cl) : Prop where
  is : ∃ A n c A2 n2 c2, v = .agg #[.slice A n c, .slice A2 n2 c2] ∧ IsC w A n h ∧ IsC w A2 n2 ws
theorem IsQ.below {w w' : World} {v : Value} {h ws : List Cl} (x : IsQ w v h ws) (b : Below w.heap.size w w') : IsQ w' v h ws := by
  obtain ⟨A, n, c, A2, n2, c2, e, h1, h2⟩ := x.is
  exact ⟨A, n, c, A2, n2, c2, e, h1.below b, h2.below b⟩
set_option maxRecDepth 100000 in
set_option maxHeartbeats 2000000 in
theorem Check_any (w : World) (v : Value) (h ws : List Cl) (x : IsQ w v h ws) (ok : OkQ h ws) :
    Calls Try.prog 82 #[v] w fun e w' => e = .returned (.int .i64 0) ∧ Below w.heap.size w w' := by
  obtain ⟨A, n, c, A2, n2, c2, rfl, h1, h2⟩ := x.is
  have H1 := Lib.hid h1
  have H2 := Lib.hid h2
  have Ok := Lib.hid ok
  have Hs1 := Lib.hid (ok_strange ok.has)
  have Hs2 := Lib.hid (ok_strange ok.waits)
  have Hsf : Hid (safeB h = true) := Lib.hid (by simpa [safeB] using ok.safe)
  obtain ⟨W, HW⟩ : ∃ W, Hid (w.alloc (.cells #[.slice A n c, .slice A2 n2 c2] 57) = W) := ⟨_, Lib.hid rfl⟩
  obtain ⟨p, Hp⟩ : ∃ W, Hid (w.heap.size = W) := ⟨_, Lib.hid rfl⟩
  have HB : Hid (Below w.heap.size w W) := Lib.hid (by rw [← HW.out]; exact balloc (Below.refl _ _) _)
  have Hpl : Hid (p < W.heap.size) := Lib.hid (by rw [← HW.out, ← Hp.out]; simp)
  have Y0 : Hid (W.cell? ⟨p, 0, none⟩ = some (.slice A n c)) := Lib.hid (by rw [← HW.out, ← Hp.out]; simp [go_sem])
  have Y1 : Hid (W.cell? ⟨p, 1, none⟩ = some (.slice A2 n2 c2)) := Lib.hid (by rw [← HW.out, ← Hp.out]; simp [go_sem])
  clear x h1 h2 ok
  go_enter Try.func82, Try.ntmps82
  go_wp2_with fail
  refine (Contains0 91 strB (fun _ _ => rfl) (fun u x => strange_any u x) _ A n c h ?_).mono ?_
  · rw [HW.out]; exact H1.out.below HB.out
  rw [HW.out, Hp.out, Hs1.out]
  rintro e W1 ⟨rfl, hb⟩
  have B1 : Hid (Below W.heap.size W W1) := Lib.hid hb
  have y1 := (hb.cell (p := ⟨p, 1, none⟩) Hpl.out).trans Y1.out
  clear hb
  go_wp2_with fail
  refine (Contains0 91 strB (fun _ _ => rfl) (fun u x => strange_any u x) W1 A2 n2 c2 ws ((H2.out.below HB.out).below B1.out)).mono ?_
  rw [Hs2.out]
  rintro e W2 ⟨rfl, hb⟩
  have B2 : Hid (Below W.heap.size W W2) := Lib.hid (bnext B1.out hb)
  have z0 := (B2.out.cell (p := ⟨p, 0, none⟩) Hpl.out).trans Y0.out
  clear hb y1
  go_wp2_with fail
  refine (rising_any W2 A n c h ((H1.out.below HB.out).below B2.out) Ok.out.rising).mono ?_
  rintro e W3 ⟨rfl, hb⟩
  have B3 : Hid (Below W.heap.size W W3) := Lib.hid (bnext B2.out hb)
  have z1 := (B3.out.cell (p := ⟨p, 1, none⟩) Hpl.out).trans Y1.out
  clear hb z0
  go_wp2_with fail
  refine (twice_any W3 A2 n2 c2 ws ((H2.out.below HB.out).below B3.out) Ok.out.once).mono ?_
  rintro e W4 ⟨rfl, hb⟩
  have B4 : Hid (Below W.heap.size W W4) := Lib.hid (bnext B3.out hb)
  have z0 := (B4.out.cell (p := ⟨p, 0, none⟩) Hpl.out).trans Y0.out
  clear hb z1
  go_wp2_with fail
  refine (Safe_any W4 A n c h ((H1.out.below HB.out).below B4.out)).mono ?_
  rw [Hsf.out]
  rintro e W5 ⟨rfl, hb⟩
  have B5 : Hid (Below W.heap.size W W5) := Lib.hid (bnext B4.out hb)
  clear hb z0
  have q0 : ∀ y : In (Abv W5), y.u.cell? ⟨p, 0, none⟩ = some (.slice A n c) := fun y => (y.is.cell (p := ⟨p, 0, none⟩) (Nat.lt_of_lt_of_le Hpl.out B5.out.size)).trans ((B5.out.cell (p := ⟨p, 0, none⟩) Hpl.out).trans Y0.out)
  have q1 : ∀ y : In (Abv W5), y.u.cell? ⟨p, 1, none⟩ = some (.slice A2 n2 c2) := fun y => (y.is.cell (p := ⟨p, 1, none⟩) (Nat.lt_of_lt_of_le Hpl.out B5.out.size)).trans ((B5.out.cell (p := ⟨p, 1, none⟩) Hpl.out).trans Y1.out)
  by_cases h0 : n2 = 0
  · subst h0
    go_wp2_with fail
    refine wp_region_mix (by kernel_rfl) (Cls (Abv W5)) [(0, 0), (1, 0), (2, 0), (3, 0), (4, 0), (5, 0), (6, 0), (7, 0), (8, 0), (9, 0), (10, 0), (11, 1), (12, 0), (13, 0)] (by kernel_rfl) (cls (Below.refl _ W5).drew) ?_
    repeat (refine mix0 rfl (fun K hK => ?_); go_simp; refine hK _ ?_; clear hK K)
    refine mix1 rfl (fun K hK => ?_)
    go_simp
    refine hK _ _ (cls (Below.refl _ W5).drew) ?_
    clear hK K
    repeat (refine mix0 rfl (fun K hK => ?_); go_simp; refine hK _ ?_; clear hK K)
    refine mixEnd ?_
    go_wp2
    go_ret
    exact ⟨rfl, bnext HB.out (bnext B5.out (drew_same _))⟩
  · obtain ⟨x, hx⟩ : ∃ x, ws[0]? = some x := ⟨_, List.getElem?_eq_getElem (by rw [H2.out.length]; omega)⟩
    have Hf := Lib.hid (Ok.out.front x hx)
    obtain ⟨g, off, rfl, hg, hcs⟩ := ((H2.out.below HB.out).below B5.out).cells (by omega)
    obtain ⟨c0, c1⟩ := hcs 0 x hx
    rw [Nat.zero_mul, Nat.add_zero] at c0 c1
    have q2 : ∀ y : In (Abv W5), y.u.cell? ⟨g, off, none⟩ = some (.int .i64 x.1) := fun y => (y.is.cell (p := ⟨g, off, none⟩) hg).trans c0
    have q3 : ∀ y : In (Abv W5), y.u.cell? ⟨g, off + 1, none⟩ = some (.int .i64 x.2) := fun y => (y.is.cell (p := ⟨g, off + 1, none⟩) hg).trans c1
    have hn0 : 0 < n2 := by omega
    have hn1 : (0 : Int) < (n2 : Int) := by omega
    clear hx hcs c0 c1 h0
    go_wp2_with fail
    refine wp_region_mix (by kernel_rfl) (Cls (Abv W5)) [(0, 0), (1, 0), (2, 0), (3, 0), (4, 0), (5, 0), (6, 0), (7, 0), (8, 0), (9, 0), (10, 0), (11, 1), (12, 0), (13, 0)] (by kernel_rfl) (cls (Below.refl _ W5).drew) ?_
    repeat (refine mix0 rfl (fun K hK => ?_); go_simp; refine hK _ ?_; clear hK K)
    refine mix1 rfl (fun K hK => ?_)
    go_simp
    refine (fits_any W5.drew A n c h (((H1.out.below HB.out).below B5.out).below (drew_same _)) x).mono ?_
    rw [Hf.out]
    rintro e W6 ⟨rfl, hb⟩
    have B6 : Hid (Abv W5 W6) := Lib.hid (bnext (drew_same _) hb)
    clear hb
    refine ⟨_, rfl, hK _ _ (cls B6.out) ?_⟩
    clear hK K
    repeat (refine mix0 rfl (fun K hK => ?_); go_simp; refine hK _ ?_; clear hK K)
    refine mixEnd ?_
    clear q0 q1 q2 q3
    go_wp2
    go_ret
    exact ⟨rfl, bnext HB.out (bnext B5.out B6.out)⟩
end Go.Proofs.Ythpmodohfjjjcaa
