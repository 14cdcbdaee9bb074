/- Bury. -/
import Derived.Test.YtfdbkmncgngkjaaReady
import Derived.Deep.Cut
namespace Go.Proofs.Ytfdbkmncgngkjaa
open Go.RowKit

set_option maxHeartbeats 8000000 in
theorem Bury_any (w : World) (x : Vx) (V : Vw) (h : IsV w x V) (node inc : Int) (hs : Sm V) :
    Calls Try.prog 29 #[vV x, .int .i64 node, .int .i64 inc] w fun e w' => ∃ x', e = .returned (.tuple #[vV x', .bool (buryB V node inc)]) ∧ Told w' w.heap.size x' (buryV V node inc) ∧ Below w.heap.size w w' := by
  have Hh := Lib.hid h
  have Hs := Lib.hid hs
  clear h hs
  go_enter Try.func29, Try.ntmps29
  go_wp2_with fail
  obtain ⟨w1, Hw1⟩ : ∃ w1, Hid ((w.alloc (.cells (vC x) 25)).alloc (.cells (vC noVx) 25) = w1) := ⟨_, Lib.hid rfl⟩
  obtain ⟨b, Hb⟩ : ∃ b, Hid (w.heap.size = b) := ⟨_, Lib.hid rfl⟩
  have HA : Hid (BoxV w1 b x) := Lib.hid (by rw [← Hw1.out, ← Hb.out]; exact (BoxV.new w x).below ((Below.refl _ _).alloc (Nat.le_refl _) _))
  have HR : Hid (BoxV w1 (b + 1) noVx) := Lib.hid (by
    have := BoxV.new (w.alloc (.cells (vC x) 25)) noVx
    rw [Hw1.out] at this
    simpa [Hb.out] using this)
  have Hb1 : Hid (Below b w w1) := Lib.hid (by rw [← Hb.out, ← Hw1.out]; exact balloc ((Below.refl _ _).alloc (Nat.le_refl _) _) _)
  have Hsz : Hid (w1.heap.size = b + 2) := Lib.hid (by rw [← Hw1.out, ← Hb.out]; simp)
  rw [show ((w.alloc (.cells #[.int .i64 x.nodes, .int .i64 x.epoch, .slice x.mA x.mn x.mc, .slice x.dA x.dn x.dc, .slice x.iA x.ir x.ic] 25)).alloc (.cells #[.int .i64 0, .int .i64 0, .slice none 0 0, .slice none 0 0, .slice none 0 0] 25)) = w1 from Hw1.out, Hb.out]
  refine (own_any _ x V (Hh.out.below (by rw [Hb.out]; exact Hb1.out)) (by have := Hs.out.mem; omega) (by have := Hs.out.dead; omega) (by have := Hs.out.incs; omega)).mono ?_
  rw [Hsz.out]
  rintro e w2 ⟨x', rfl, hb2, hT⟩
  have HA2 := Lib.hid (HA.out.below (by rw [Hsz.out]; exact hb2))
  have HR2 := Lib.hid (HR.out.below (by rw [Hsz.out]; exact hb2))
  have HO0 := Lib.hid (ow_start hT HA2.out HR2.out)
  have HB0 : Hid (Below b w (setV w2 b x')) := Lib.hid ((setV_mod w2 b x').below (Hb1.out.trans (hb2.mono (by omega))) (by have := hb2.size; have := Hsz.out; omega) (fun i e => by rw [show i = b from e]; exact Nat.le_refl _))
  obtain ⟨v0, v1, v2, v3, v4⟩ := HA2.out.cells
  have f0 := HA2.out.free 0
  have f1 := HA2.out.free 1
  have f2 := HA2.out.free 2
  have f3 := HA2.out.free 3
  have f4 := HA2.out.free 4
  clear hT hb2
  go_wp2
  obtain ⟨w3, Hw3⟩ : ∃ w3, Hid (setV w2 b x' = w3) := ⟨_, Lib.hid rfl⟩
  rw [show ((((w2.setCell ⟨b, 0, none⟩ (.int .i64 x'.nodes)).setCell ⟨b, 1, none⟩ (.int .i64 x'.epoch)).setCell ⟨b, 2, none⟩ (.slice x'.mA x'.mn x'.mc)).setCell ⟨b, 3, none⟩ (.slice x'.dA x'.dn x'.dc)).setCell ⟨b, 4, none⟩ (.slice x'.iA x'.ir x'.ic) = w3 from Hw3.out]
  have HO : Hid (Ow w3 b b (b + 1) x' V) := Lib.hid (by rw [← Hw3.out]; exact HO0.out)
  have HB : Hid (Below b w w3) := Lib.hid (by rw [← Hw3.out]; exact HB0.out)
  have HBs : Hid (b ≤ w3.heap.size) := Lib.hid (Nat.le_of_lt HO.out.box.lt)
  clear v0 v1 v2 v3 v4 f0 f1 f2 f3 f4
  have Hq : Hid (∀ W X, Ow W b b (b + 1) X V → buryB V node inc = false → Told (setV W (b + 1) X) b X (buryV V node inc)) := Lib.hid (fun W X hO hj => by
    have := hO.tell
    unfold buryV
    rw [hj]
    exact this)
  obtain ⟨F, HF⟩ : ∃ F, Hid (V.dead.findIdx (pIs node inc) = F) := ⟨_, Lib.hid rfl⟩
  have v2 : ∀ y : In (Abv w3), y.u.cell? ⟨b, 3, none⟩ = some (.slice x'.dA x'.dn x'.dc) := fun y => (HO.out.box.below y.is).cells.2.2.2.1
  refine wp_region_mix (by kernel_rfl) (Cls (Abv w3)) [(0, 0), (1, 0), (2, 0), (3, 0), (4, 1), (5, 1), (6, 0)] (by kernel_rfl) (cls (Below.refl _ _).drew) ?_
  repeat (refine mix0 rfl (fun K hK => ?_); go_simp; refine hK _ ?_; clear hK K)
  refine mix1 rfl (fun K hK => ?_)
  go_simp
  refine (is_any node inc _).mono ?_
  rintro e w4 ⟨q, r, rfl, hb4, hcl⟩
  have Hb4 : Hid (Below w3.heap.size w3 w4) := Lib.hid ((Below.refl _ _).drew.trans hb4)
  have Hcl := Lib.hid hcl
  clear hb4 hcl
  refine ⟨_, rfl, hK _ _ (cls Hb4.out) ?_⟩
  clear hK K
  refine mix1 rfl (fun K hK => ?_)
  go_simp
  refine (find_is _ _ _ _ V.dead (HO.out.below Hb4.out).dead.isL _ _ _ Hcl.out).mono ?_
  rw [HF.out]
  rintro e w5 ⟨rfl, hb5⟩
  have Hb5 : Hid (Below w3.heap.size w3 w5) := Lib.hid (bnext Hb4.out hb5)
  clear hb5
  refine ⟨_, rfl, hK _ _ (cls Hb5.out) ?_⟩
  clear hK K
  repeat (refine mix0 rfl (fun K hK => ?_); go_simp; refine hK _ ?_; clear hK K)
  refine mixEnd ?_
  clear v2
  have HO5 := Lib.hid (HO.out.below Hb5.out)
  have HB5 : Hid (Below b w w5) := Lib.hid (HB.out.trans (Hb5.out.mono HBs.out))
  have HBs5 : Hid (b ≤ w5.heap.size) := Lib.hid (Nat.le_of_lt HO5.out.box.lt)
  have hFl : F ≤ x'.dn := by rw [← HF.out, ← RowM.len HO5.out.dead]; exact List.findIdx_le_length
  have hdn : x'.dn ≤ 800 := by rw [← RowM.len HO5.out.dead]; exact Hs.out.dead
  obtain ⟨v0, v1, v2, v3, v4⟩ := HO5.out.box.cells
  go_wp2_with fail
  refine (Check_any _ x' V HO5.out.isV).mono ?_
  rintro e w6 ⟨rfl, hb6⟩
  have HO6 := Lib.hid (HO5.out.below hb6)
  have HB6 : Hid (Below b w w6) := Lib.hid (HB5.out.trans (hb6.mono HBs5.out))
  have HBs6 : Hid (b ≤ w6.heap.size) := Lib.hid (Nat.le_of_lt HO6.out.box.lt)
  clear hb6 v0 v1 v2 v3 v4
  cases hc : chkB V with
  | false =>
    have he : chkE V = 1 := by simp [chkE, hc]
    have hne : ((1 : Int) != 0) = true := rfl
    have Hj : Hid (buryB V node inc = false) := Lib.hid (by unfold buryB; rw [hc]; rfl)
    clear hc
    obtain ⟨v0, v1, v2, v3, v4⟩ := HO6.out.box.cells
    obtain ⟨r0, r1, r2, r3, r4⟩ := HO6.out.res.cells
    have f0 := HO6.out.res.free 0
    have f1 := HO6.out.res.free 1
    have f2 := HO6.out.res.free 2
    have f3 := HO6.out.res.free 3
    have f4 := HO6.out.res.free 4
    go_wp2
    clear v0 v1 v2 v3 v4 r0 r1 r2 r3 r4 f0 f1 f2 f3 f4
    obtain ⟨s0, s1, s2, s3, s4⟩ := (setV_box HO6.out.res x').cells
    exact bodyPost_ret (v := .tuple #[vV x', .bool false]) (by simp [results, Try.results29, go_sem, s0, s1, s2, s3, s4]) rfl ⟨x', by rw [Hj.out], by rw [Hb.out]; exact Hq.out _ _ HO6.out Hj.out, by rw [Hb.out]; exact (setV_mod _ _ _).below HB6.out (Nat.le_of_lt HO6.out.box.lt) (fun i e => by rw [show i = b + 1 from e]; omega)⟩
  | true =>
    have he : chkE V = 0 := by simp [chkE, hc]
    have hne : ((0 : Int) != 0) = false := rfl
    have Hc := Lib.hid hc
    clear hc
    by_cases hF : F = x'.dn
    · have hF' : ((F : Int) == (x'.dn : Int)) = true := beq_yes (by omega)
      have Hj : Hid (buryB V node inc = false) := Lib.hid (by unfold buryB; rw [HF.out, RowM.len HO5.out.dead]; simp [hF])
      clear hF
      obtain ⟨v0, v1, v2, v3, v4⟩ := HO6.out.box.cells
      obtain ⟨r0, r1, r2, r3, r4⟩ := HO6.out.res.cells
      have f0 := HO6.out.res.free 0
      have f1 := HO6.out.res.free 1
      have f2 := HO6.out.res.free 2
      have f3 := HO6.out.res.free 3
      have f4 := HO6.out.res.free 4
      go_wp2
      clear v0 v1 v2 v3 v4 r0 r1 r2 r3 r4 f0 f1 f2 f3 f4
      obtain ⟨s0, s1, s2, s3, s4⟩ := (setV_box HO6.out.res x').cells
      exact bodyPost_ret (v := .tuple #[vV x', .bool false]) (by simp [results, Try.results29, go_sem, s0, s1, s2, s3, s4]) rfl ⟨x', by rw [Hj.out], by rw [Hb.out]; exact Hq.out _ _ HO6.out Hj.out, by rw [Hb.out]; exact (setV_mod _ _ _).below HB6.out (Nat.le_of_lt HO6.out.box.lt) (fun i e => by rw [show i = b + 1 from e]; omega)⟩
    · have hF' : ((F : Int) == (x'.dn : Int)) = false := beq_no (by omega)
      have hF2 : F < x'.dn := by omega
      have Hj : Hid (buryB V node inc = true) := Lib.hid (by unfold buryB; rw [Hc.out, HF.out, RowM.len HO5.out.dead]; simp [hF2])
      have Hjv : Hid (buryV V node inc = { V with dead := V.dead.take F ++ V.dead.drop (F + 1) }) := Lib.hid (by unfold buryV; rw [Hj.out, HF.out]; rfl)
      have hput := put_any _ _ _ _ V.dead HO6.out.dead F (F + 1) (by omega) (by omega) none 0 0 [] (isL_none (by simp) (fun _ => rfl)) (by omega) (by omega)
      rw [show ((F + 1 : Nat) : Int) = (F : Int) + 1 by omega] at hput
      have Hput := Lib.hid hput
      clear hput hF
      obtain ⟨v0, v1, v2, v3, v4⟩ := HO6.out.box.cells
      go_wp2_with fail
      refine Hput.out.mono ?_
      rintro e w7 ⟨dA, dc, rfl, r7, hb7, n7⟩
      have Hb7 := Lib.hid hb7
      have R7 := Lib.hid r7
      have N7 := Lib.hid n7
      clear hb7 r7 n7 v0 v1 v2 v3 v4
      have HO7 := Lib.hid (HO6.out.deadTo HBs6.out Hb7.out R7.out N7.out)
      have HB7 : Hid (Below b w (w7.setCell ⟨b, 3, none⟩ (.slice dA (F + 0 + (x'.dn - (F + 1))) dc))) := Lib.hid ((HB6.out.trans (Hb7.out.mono HBs6.out)).setCell HO6.out.lt _)
      obtain ⟨N, HN⟩ : ∃ N, Hid (F + 0 + (x'.dn - (F + 1)) = N) := ⟨_, Lib.hid rfl⟩
      have HO8 : Hid (Ow (w7.setCell ⟨b, 3, none⟩ (.slice dA N dc)) b b (b + 1) { x' with dA := dA, dn := N, dc := dc } (buryV V node inc)) := Lib.hid (by
        have := HO7.out
        rw [HN.out] at this
        rw [Hjv.out]
        rw [List.append_nil] at this
        exact this)
      have HB8 : Hid (Below b w (w7.setCell ⟨b, 3, none⟩ (.slice dA N dc))) := Lib.hid (by have := HB7.out; rw [HN.out] at this; exact this)
      rw [HN.out]
      have sb := (HO6.out.box.below Hb7.out).cells.2.2.2.1
      have fb := (HO6.out.box.below Hb7.out).free 3
      obtain ⟨x8, Hx8⟩ : ∃ x8, Hid (({ x' with dA := dA, dn := N, dc := dc } : Vx) = x8) := ⟨_, Lib.hid rfl⟩
      obtain ⟨w8, Hw8⟩ : ∃ w8, Hid (w7.setCell ⟨b, 3, none⟩ (.slice dA N dc) = w8) := ⟨_, Lib.hid rfl⟩
      have HO9 : Hid (Ow w8 b b (b + 1) x8 (buryV V node inc)) := Lib.hid (by rw [← Hw8.out, ← Hx8.out]; exact HO8.out)
      have HB9 : Hid (Below b w w8) := Lib.hid (by rw [← Hw8.out]; exact HB8.out)
      go_upto_region 6 with (fail)
      rw [Hw8.out]
      clear sb fb
      obtain ⟨v0, v1, v2, v3, v4⟩ := HO9.out.box.cells
      obtain ⟨r0, r1, r2, r3, r4⟩ := HO9.out.res.cells
      have f0 := HO9.out.res.free 0
      have f1 := HO9.out.res.free 1
      have f2 := HO9.out.res.free 2
      have f3 := HO9.out.res.free 3
      have f4 := HO9.out.res.free 4
      go_wp2
      clear v0 v1 v2 v3 v4 r0 r1 r2 r3 r4 f0 f1 f2 f3 f4
      obtain ⟨s0, s1, s2, s3, s4⟩ := (setV_box HO9.out.res x8).cells
      exact bodyPost_ret (v := .tuple #[vV x8, .bool true]) (by simp [results, Try.results29, go_sem, s0, s1, s2, s3, s4]) rfl ⟨x8, by rw [Hj.out], by rw [Hb.out]; exact HO9.out.tell, by rw [Hb.out]; exact (setV_mod _ _ _).below HB9.out (Nat.le_of_lt HO9.out.box.lt) (fun i e => by rw [show i = b + 1 from e]; omega)⟩

end Go.Proofs.Ytfdbkmncgngkjaa
