/- Who is called. -/
import Derived.Test.YthpmodohfjjjcaaPb9
namespace Go.Proofs.Ythpmodohfjjjcaa
open Go.RowKit

def cQ (x c : Cl) : Bool := (c.1 != x.1) && !fitB c.2 x.2
def cR (x c : Cl) : Cl := (c.1, restM x.2)
def cM (h : List Cl) (x : Cl) : List Cl := (h.filter (cQ x)).map (cR x)
def callsM (h : List Cl) : List Cl → List Cl
  | [] => []
  | x :: _ => cM h x
theorem cM_step {h : List Cl} {k : Nat} {c : Cl} (hc : h[k]? = some c) (x : Cl) : cM (h.take (k + 1)) x = if cQ x c then cM (h.take k) x ++ [cR x c] else cM (h.take k) x := by
  obtain ⟨hk, e⟩ := List.getElem?_eq_some_iff.1 hc
  unfold cM
  rw [List.take_succ_eq_append_getElem hk, e, List.filter_append, List.map_append]
  cases hq : cQ x c <;> simp [List.filter, hq]
theorem cM_length (h : List Cl) (x : Cl) : (cM h x).length ≤ h.length := by
  unfold cM
  rw [List.length_map]
  exact List.length_filter_le _ _
theorem rest_wf (m : Int) : (Lit.int .i64 (restM m)).wf = true := by
  unfold restM
  split
  · rfl
  · split <;> rfl
set_option maxHeartbeats 1000000 in
set_option maxRecDepth 100000 in
theorem Calls_any (w : World) (v : Value) (h ws : List Cl) (x : IsQ w v h ws) (hh : h.length ≤ 50) :
    Calls Try.prog 48 #[v] w fun e w' => ∃ T, e = .returned T ∧ IsS w' T (callsM h ws) ∧ Below w.heap.size w w' := by
  obtain ⟨A, n, c, A2, n2, c2, rfl, j1, j2⟩ := x.is
  have J1 := Lib.hid j1
  have J2 := Lib.hid j2
  obtain ⟨W, HW⟩ : ∃ W, Hid (w.alloc (.cells #[.slice A n c, .slice A2 n2 c2] 57) = W) := ⟨_, Lib.hid rfl⟩
  obtain ⟨p, Hp⟩ : ∃ W, Hid (w.heap.size = W) := ⟨_, Lib.hid rfl⟩
  have HB : Hid (Below w.heap.size w W) := Lib.hid (by rw [← HW.out]; exact balloc (Below.refl _ _) _)
  cases ws with
  | nil =>
    obtain rfl : n2 = 0 := by have := j2.length; simp at this; omega
    clear x j1 j2
    go_enter Try.func48, Try.ntmps48
    go_wp2
    go_ret
    exact ⟨.slice none 0 0, rfl, (RC.nil _).isS, balloc (Below.refl _ _) _⟩
  | cons f ws =>
    have hn2 : 0 < n2 := by have := j2.length; simp at this; omega
    have hn2' : ¬ (n2 = 0) := by omega
    have hns := j1.small
    have hn2i : (0 : Int) < (n2 : Int) := by omega
    have hn2b : ((n2 : Int) == 0) = false := by simpa using hn2'
    obtain ⟨g2, off2, rfl, hg2, hcs2⟩ := j2.cells hn2
    obtain ⟨a0, a1⟩ := hcs2 0 f rfl
    rw [Nat.zero_mul, Nat.add_zero] at a0 a1
    have b0 := (HB.out.cell (p := ⟨g2, off2, none⟩) hg2).trans a0
    have b1 := (HB.out.cell (p := ⟨g2, off2 + 1, none⟩) hg2).trans a1
    rw [← HW.out] at b0 b1
    obtain ⟨W2, HW2⟩ : ∃ x, Hid ((w.alloc (.cells #[.slice A n c, .slice (some ⟨g2, off2, none⟩) n2 c2] 57)).alloc (.cells #[.int .i64 f.1, .int .i64 f.2] 61) = x) := ⟨_, Lib.hid rfl⟩
    obtain ⟨p2, Hp2⟩ : ∃ x, Hid (w.heap.size + 1 = x) := ⟨_, Lib.hid rfl⟩
    have HB2 : Hid (Below w.heap.size w W2) := Lib.hid (by rw [← HW2.out]; exact balloc (balloc (Below.refl _ _) _) _)
    have HF0 : Hid (W2.cell? ⟨p2, 0, none⟩ = some (.int .i64 f.1)) := Lib.hid (by rw [← HW2.out, ← Hp2.out]; simp [go_sem])
    have HF1 : Hid (W2.cell? ⟨p2, 1, none⟩ = some (.int .i64 f.2)) := Lib.hid (by rw [← HW2.out, ← Hp2.out]; simp [go_sem])
    clear x j1 j2 hcs2
    go_enter Try.func48, Try.ntmps48
    go_wp2_with fail
    rw [HW2.out, Hp2.out]
    clear b0 b1 a0 a1
    go_loopw [3, 6, 18] (fun T _ i wr => ∃ (k : Nat) (T0 : Value), i = .int .i64 (k : Int) ∧ T0 = T ∧ k ≤ n ∧ Hid (Below w.heap.size w wr) ∧ Hid (Below W2.heap.size W2 wr) ∧ Hid (RC wr T0 (cM (h.take k) f)) ∧ Hid (∀ g, blk T0 = some g → W2.heap.size ≤ g)) (fun _ _ i _ => n - (intOf i).toNat)
    case atStart => exact ⟨0, _, rfl, rfl, by omega, HB2, Lib.hid (Below.refl _ _), Lib.hid (RC.nil _), Lib.hid (fun g hg => by cases hg)⟩
    case round =>
      obtain ⟨k, T0, rfl, rfl, hk, HBr, HB2r, HR, HN⟩ := hrel
      by_cases hlt : k < n
      · obtain ⟨c9, hc9⟩ : ∃ x, h[k]? = some x := ⟨_, List.getElem?_eq_getElem (by rw [J1.out.length]; exact hlt)⟩
        obtain ⟨g, off, rfl, hg, hcs⟩ := (J1.out.below HBr.out).cells (by omega)
        obtain ⟨c0, c1⟩ := hcs k c9 hc9
        have Hst := Lib.hid (cM_step hc9 f)
        have Hwf := Lib.hid (J1.out.wf c9 (List.mem_of_getElem? hc9))
        have hkn : (k : Int) < (n : Int) := by omega
        obtain ⟨pa, Hpa⟩ : ∃ x, Hid (wr.heap.size = x) := ⟨_, Lib.hid rfl⟩
        obtain ⟨Wa, HWa⟩ : ∃ x, Hid (wr.alloc (.cells #[.int .i64 c9.1, .int .i64 c9.2] 61) = x) := ⟨_, Lib.hid rfl⟩
        have HBa : Hid (Below wr.heap.size wr Wa) := Lib.hid (by rw [← HWa.out]; exact balloc (Below.refl _ _) _)
        have Ha0 : Hid (Wa.cell? ⟨pa, 0, none⟩ = some (.int .i64 c9.1)) := Lib.hid (by rw [← HWa.out, ← Hpa.out]; simp [go_sem])
        have Ha1 : Hid (Wa.cell? ⟨pa, 1, none⟩ = some (.int .i64 c9.2)) := Lib.hid (by rw [← HWa.out, ← Hpa.out]; simp [go_sem])
        have d0 := (HB2r.out.cell (p := ⟨p2, 0, none⟩) (lt_of_cell HF0.out)).trans HF0.out
        have d1 := (HB2r.out.cell (p := ⟨p2, 1, none⟩) (lt_of_cell HF0.out)).trans HF1.out
        have hp2 : p2 < wr.heap.size := lt_of_cell d0
        have HD0 : Hid (Wa.cell? ⟨p2, 0, none⟩ = some (.int .i64 f.1)) := Lib.hid ((HBa.out.cell (p := ⟨p2, 0, none⟩) hp2).trans d0)
        have HD1 : Hid (Wa.cell? ⟨p2, 1, none⟩ = some (.int .i64 f.2)) := Lib.hid ((HBa.out.cell (p := ⟨p2, 1, none⟩) hp2).trans d1)
        have HRa := Lib.hid (HR.out.below HBa.out)
        have HBw : Hid (Below w.heap.size w Wa) := Lib.hid (bnext HBr.out HBa.out)
        have HB2w : Hid (Below W2.heap.size W2 Wa) := Lib.hid (bnext HB2r.out HBa.out)
        clear hcs hc9
        cases hq : cQ f c9 with
        | false =>
          rw [hq] at Hst
          have HR2 : Hid (∀ u, Below Wa.heap.size Wa u → RC u T0 (cM (h.take (k + 1)) f)) := Lib.hid (fun u hu => by rw [Hst.out]; exact HRa.out.below hu)
          by_cases he : c9.1 = f.1
          · have hb := bne_no he
            clear hq he
            have HBw' : Hid (Below w.heap.size w (wr.alloc (.cells #[.int .i64 c9.1, .int .i64 c9.2] 61))) := Lib.hid (by rw [HWa.out]; exact HBw.out)
            have HB2w' : Hid (Below W2.heap.size W2 (wr.alloc (.cells #[.int .i64 c9.1, .int .i64 c9.2] 61))) := Lib.hid (by rw [HWa.out]; exact HB2w.out)
            have HR2' : Hid (RC (wr.alloc (.cells #[.int .i64 c9.1, .int .i64 c9.2] 61)) T0 (cM (h.take (k + 1)) f)) := Lib.hid (by rw [HWa.out]; exact HR2.out _ (Below.refl _ _))
            go_wp2
            go_roundw
            case rel => exact ⟨k + 1, T0, by go_num, rfl, by omega, HBw', HB2w', HR2', HN⟩
            case measure => simp [intOf]; omega
          · have hb := bne_yes he
            have hf : fitB c9.2 f.2 = true := by simpa [cQ, hb] using hq
            have Hf := Lib.hid hf
            clear hq he hf
            go_wp2_with fail
            rw [HWa.out]
            refine (Fit_any Wa c9.2 f.2).mono ?_
            rw [Hf.out]
            rintro e w3 ⟨rfl, hb3⟩
            have B3 := Lib.hid hb3
            clear hb3
            go_wp2
            go_roundw
            case rel => exact ⟨k + 1, T0, by go_num, rfl, by omega, Lib.hid (bnext HBw.out B3.out), Lib.hid (bnext HB2w.out B3.out), Lib.hid (HR2.out _ B3.out), HN⟩
            case measure => simp [intOf]; omega
        | true =>
          rw [hq] at Hst
          have hq2 : c9.1 ≠ f.1 ∧ fitB c9.2 f.2 = false := by simpa [cQ] using hq
          have hb := bne_yes hq2.1
          have Hf := Lib.hid hq2.2
          have Hlen : Hid ((cM (h.take k) f).length ≤ 50) := Lib.hid (Nat.le_trans (cM_length _ _) (Nat.le_trans (by rw [List.length_take]; omega) hh))
          clear hq hq2
          go_wp2_with fail
          rw [HWa.out]
          refine (Fit_any Wa c9.2 f.2).mono ?_
          rw [Hf.out]
          rintro e w3 ⟨rfl, hb3⟩
          have B3 := Lib.hid hb3
          clear hb3
          rw [Hpa.out]
          go_wp2_with fail
          have HT3 : Hid (∀ g, blk T0 = some g → g < Wa.heap.size) := Lib.hid (fun g hg => HRa.out.lt hg)
          have hpaN : blk T0 ≠ some pa := fun e => by have := HR.out.lt e; have := Hpa.out; omega
          have hp2N : blk T0 ≠ some p2 := fun e => by have := HN.out _ e; have := lt_of_cell HF0.out; omega
          have hpa3 : pa < w3.heap.size := Nat.lt_of_lt_of_le (lt_of_cell Ha0.out) B3.out.size
          have hp23 : p2 < w3.heap.size := Nat.lt_of_lt_of_le (lt_of_cell HD0.out) B3.out.size
          have q0 : ∀ y : In (Mdb w3 T0), y.u.cell? ⟨pa, 0, none⟩ = some (.int .i64 c9.1) := fun y => (y.is.cell (p := ⟨pa, 0, none⟩) hpa3 hpaN).trans ((B3.out.cell (p := ⟨pa, 0, none⟩) (lt_of_cell Ha0.out)).trans Ha0.out)
          have q1 : ∀ y : In (Mdb w3 T0), y.u.cell? ⟨p2, 1, none⟩ = some (.int .i64 f.2) := fun y => (y.is.cell (p := ⟨p2, 1, none⟩) hp23 hp2N).trans ((B3.out.cell (p := ⟨p2, 1, none⟩) (lt_of_cell HD0.out)).trans HD1.out)
          refine wp_region_mix (by kernel_rfl) (Cls (Mdb w3 T0)) [(0, 0), (1, 0), (2, 0), (3, 0), (4, 0), (5, 1), (6, 0), (7, 1), (8, 1), (9, 0)] (by kernel_rfl) (cls (Mod.refl _ w3).drew) ?_
          repeat (refine mix0 rfl (fun K hK => ?_); go_simp; refine hK _ ?_; clear hK K)
          refine mix1 rfl (fun K hK => ?_)
          go_simp
          obtain ⟨R, HR'⟩ : ∃ x, Hid (restM f.2 = x) := ⟨_, Lib.hid rfl⟩
          refine (Rest_any w3.drew f.2).mono ?_
          rw [HR'.out]
          rintro e w4 ⟨rfl, hb4⟩
          have B4 : Hid (Below w3.heap.size w3 w4) := Lib.hid (bnext (drew_same _) hb4)
          have M4 : Hid (Mdb w3 T0 w4) := Lib.hid (Mod.of_below B4.out)
          clear hb4
          refine ⟨_, rfl, hK _ _ (cls M4.out) ?_⟩
          clear hK K
          repeat (refine mix0 rfl (fun K hK => ?_); go_simp; refine hK _ ?_; clear hK K)
          refine mix1 rfl (fun K hK => ?_)
          go_simp
          have HWf : Hid ((Lit.int .i64 c9.1).wf = true ∧ (Lit.int .i64 R).wf = true) := Lib.hid ⟨Hwf.out.1, by rw [← HR'.out]; exact rest_wf _⟩
          have hb45 : Below w4.heap.size w4 (w4.alloc (.cells #[.int .i64 c9.1, .int .i64 R] 61)) := balloc (Below.refl _ _) _
          obtain ⟨T1, w6, hr6, r6, a6⟩ := appC (((HRa.out.below B3.out).below B4.out).below hb45) (c := 1) (Sgl.new w4 (c9.1, R) HWf.out).is (by have := Hlen.out; omega) 55
          have Hr6 := Lib.hid hr6
          have M5 : Hid (Mdb w3 T0 (w4.alloc (.cells #[.int .i64 c9.1, .int .i64 R] 61))) := Lib.hid (Mod.of_below (bnext B4.out hb45))
          have M6 : Hid (Mdb w3 T0 w6) := Lib.hid (M5.out.trans a6.mod)
          have HB6 : Hid (Below W2.heap.size W2 w6) := Lib.hid (Mod.below (bnext HB2w.out B3.out) M6.out (bnext HB2w.out B3.out).size HN.out)
          have HBw6 : Hid (Below w.heap.size w w6) := Lib.hid (Mod.below (bnext HBw.out B3.out) M6.out (bnext HBw.out B3.out).size (fun g hg => Nat.le_trans HB2.out.size (HN.out g hg)))
          have HR6 : Hid (RC w6 T1 (cM (h.take (k + 1)) f)) := Lib.hid (by
            rw [Hst.out]
            simp only [if_true]
            have : cR f c9 = (c9.1, R) := by rw [cR, HR'.out]
            rw [this]
            exact r6)
          have HN6 : Hid (∀ g, blk T1 = some g → W2.heap.size ≤ g) := Lib.hid (fun g hg => by
            rcases a6.blk with e | ⟨g', e, h'⟩
            · exact HN.out g (e ▸ hg)
            · rw [e] at hg; injection hg with hg
              have := HB2w.out.size; have := B3.out.size; have := B4.out.size; have := hb45.size; omega)
          refine hK _ _ (cls M5.out) ?_
          clear hK K r6 a6 hr6 hb45
          refine mix_append rfl rfl (.tmp 35) (.tmp 42) 55 rfl (by exact Hr6.out) (cls M6.out) ?_
          repeat (refine mix0 rfl (fun K hK => ?_); go_simp; refine hK _ ?_; clear hK K)
          refine mixEnd ?_
          clear q0 q1 hpaN hp2N hpa3 hp23 d0 d1
          go_wp2
          go_roundw
          case rel => exact ⟨k + 1, T1, by go_num, rfl, by omega, HBw6, HB6, HR6, HN6⟩
          case measure => simp [intOf]; omega
      · have hkn : ¬ ((k : Int) < (n : Int)) := by omega
        obtain rfl : k = n := by omega
        have HR2 := HR.out
        rw [List.take_of_length_le (by rw [J1.out.length]; omega)] at HR2
        have HS := Lib.hid HR2.isS
        clear HR2
        go_wp2
        go_ret
        exact ⟨T0, rfl, HS.out, HBr.out⟩
end Go.Proofs.Ythpmodohfjjjcaa
