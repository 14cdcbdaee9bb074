/- Leave, Ready, Bury. -/
import Derived.Test.YtnbhjehaecifcaaJoin
namespace Go.Proofs.Ytnbhjehaecifcaa
open Go.RowKit

def leaveB (V : Vw) (by_ node : Int) : Bool := turnsB V && (by_ != node && (decide (V.mem.findIdx (pOf node) < V.mem.length) && (V.mem.any (pOf by_) && decide (V.nodes < 2 * ((V.mem.length : Int) - 1)))))
def leaveV (V : Vw) (by_ node : Int) : Vw := if leaveB V by_ node then (match V.mem[V.mem.findIdx (pOf node)]? with | some m => turnV (dieV V (V.mem.findIdx (pOf node)) m) | none => V) else V
set_option maxHeartbeats 8000000 in
theorem Leave_any (w : World) (x : Vx) (V : Vw) (h : IsV w x V) (by_ node : Int) (hs : Sm V) :
    Calls Try.prog 17 #[vV x, .int .i64 by_, .int .i64 node] w fun e w' => ∃ x', e = .returned (.tuple #[vV x', .bool (leaveB V by_ node)]) ∧ Told w' w.heap.size x' (leaveV V by_ node) ∧ Below w.heap.size w w' := by
  have Hh := Lib.hid h
  have Hs := Lib.hid hs
  clear h hs
  go_enter Try.func17, Try.ntmps17
  go_wp2_with fail
  obtain ⟨w1, Hw1⟩ : ∃ w1, Hid ((w.alloc (.cells (vC x) 25)).alloc (.cells (vC noVx) 25) = w1) := ⟨_, Lib.hid rfl⟩
  obtain ⟨b, Hb⟩ : ∃ b, Hid (w.heap.size = b) := ⟨_, Lib.hid rfl⟩
  have HA : Hid (BoxV w1 b x) := Lib.hid (by rw [← Hw1.out, ← Hb.out]; exact (BoxV.new w x).below ((Below.refl _ _).alloc (Nat.le_refl _) _))
  have HR : Hid (BoxV w1 (b + 1) noVx) := Lib.hid (by
    have := BoxV.new (w.alloc (.cells (vC x) 25)) noVx
    rw [Hw1.out] at this
    simpa [Hb.out] using this)
  have Hb1 : Hid (Below b w w1) := Lib.hid (by rw [← Hb.out, ← Hw1.out]; exact balloc ((Below.refl _ _).alloc (Nat.le_refl _) _) _)
  have Hsz : Hid (w1.heap.size = b + 2) := Lib.hid (by rw [← Hw1.out, ← Hb.out]; simp)
  rw [show ((w.alloc (.cells #[.int .i64 x.nodes, .int .i64 x.epoch, .slice x.mA x.mn x.mc, .slice x.dA x.dn x.dc, .slice x.iA x.ir x.ic] 25)).alloc (.cells #[.int .i64 0, .int .i64 0, .slice none 0 0, .slice none 0 0, .slice none 0 0] 25)) = w1 from Hw1.out, Hb.out]
  refine (own_any _ x V (Hh.out.below (by rw [Hb.out]; exact Hb1.out)) (by have := Hs.out.mem; omega) (by have := Hs.out.dead; omega) (by have := Hs.out.incs; omega)).mono ?_
  rw [Hsz.out]
  rintro e w2 ⟨x', rfl, hb2, hT⟩
  have HA2 := Lib.hid (HA.out.below (by rw [Hsz.out]; exact hb2))
  have HR2 := Lib.hid (HR.out.below (by rw [Hsz.out]; exact hb2))
  have HO0 := Lib.hid (ow_start hT HA2.out HR2.out)
  have HB0 : Hid (Below b w (setV w2 b x')) := Lib.hid ((setV_mod w2 b x').below (Hb1.out.trans (hb2.mono (by omega))) (by have := hb2.size; have := Hsz.out; omega) (fun i e => by rw [show i = b from e]; exact Nat.le_refl _))
  obtain ⟨v0, v1, v2, v3, v4⟩ := HA2.out.cells
  have f0 := HA2.out.free 0
  have f1 := HA2.out.free 1
  have f2 := HA2.out.free 2
  have f3 := HA2.out.free 3
  have f4 := HA2.out.free 4
  clear hT hb2
  go_wp2
  obtain ⟨w3, Hw3⟩ : ∃ w3, Hid (setV w2 b x' = w3) := ⟨_, Lib.hid rfl⟩
  rw [show ((((w2.setCell ⟨b, 0, none⟩ (.int .i64 x'.nodes)).setCell ⟨b, 1, none⟩ (.int .i64 x'.epoch)).setCell ⟨b, 2, none⟩ (.slice x'.mA x'.mn x'.mc)).setCell ⟨b, 3, none⟩ (.slice x'.dA x'.dn x'.dc)).setCell ⟨b, 4, none⟩ (.slice x'.iA x'.ir x'.ic) = w3 from Hw3.out]
  have HO : Hid (Ow w3 b b (b + 1) x' V) := Lib.hid (by rw [← Hw3.out]; exact HO0.out)
  have HB : Hid (Below b w w3) := Lib.hid (by rw [← Hw3.out]; exact HB0.out)
  have HBs : Hid (b ≤ w3.heap.size) := Lib.hid (Nat.le_of_lt HO.out.box.lt)
  clear v0 v1 v2 v3 v4 f0 f1 f2 f3 f4
  have Hq : Hid (∀ W X, Ow W b b (b + 1) X V → leaveB V by_ node = false → Told (setV W (b + 1) X) b X (leaveV V by_ node)) := Lib.hid (fun W X hO hj => by
    have := hO.tell
    unfold leaveV
    rw [hj]
    exact this)
  obtain ⟨F, HF⟩ : ∃ F, Hid (V.mem.findIdx (pOf node) = F) := ⟨_, Lib.hid rfl⟩
  have v2 : ∀ y : In (Abv w3), y.u.cell? ⟨b, 2, none⟩ = some (.slice x'.mA x'.mn x'.mc) := fun y => (HO.out.box.below y.is).cells.2.2.1
  refine wp_region_mix (by kernel_rfl) (Cls (Abv w3)) [(0, 0), (1, 0), (2, 0), (3, 1), (4, 1), (5, 0)] (by kernel_rfl) (cls (Below.refl _ _).drew) ?_
  repeat (refine mix0 rfl (fun K hK => ?_); go_simp; refine hK _ ?_; clear hK K)
  refine mix1 rfl (fun K hK => ?_)
  go_simp
  refine (of_any node _).mono ?_
  rintro e w4 ⟨q, rfl, hb4, hcl⟩
  have Hb4 : Hid (Below w3.heap.size w3 w4) := Lib.hid ((Below.refl _ _).drew.trans hb4)
  have Hcl := Lib.hid hcl
  clear hb4 hcl
  refine ⟨_, rfl, hK _ _ (cls Hb4.out) ?_⟩
  clear hK K
  refine mix1 rfl (fun K hK => ?_)
  go_simp
  refine (find_of _ _ _ _ V.mem (HO.out.below Hb4.out).mem.isL _ _ Hcl.out).mono ?_
  rw [HF.out]
  rintro e w5 ⟨rfl, hb5⟩
  have Hb5 : Hid (Below w3.heap.size w3 w5) := Lib.hid (bnext Hb4.out hb5)
  clear hb5
  refine ⟨_, rfl, hK _ _ (cls Hb5.out) ?_⟩
  clear hK K
  repeat (refine mix0 rfl (fun K hK => ?_); go_simp; refine hK _ ?_; clear hK K)
  refine mixEnd ?_
  clear v2
  have HO5 := Lib.hid (HO.out.below Hb5.out)
  have HB5 : Hid (Below b w w5) := Lib.hid (HB.out.trans (Hb5.out.mono HBs.out))
  have HBs5 : Hid (b ≤ w5.heap.size) := Lib.hid (Nat.le_of_lt HO5.out.box.lt)
  have hFl : F ≤ x'.mn := by rw [← HF.out, ← RowM.len HO5.out.mem]; exact List.findIdx_le_length
  have hmn : x'.mn ≤ 800 := by rw [← RowM.len HO5.out.mem]; exact Hs.out.mem
  have v0 : ∀ y : In (Abv w5), y.u.cell? ⟨b, 0, none⟩ = some (.int .i64 x'.nodes) := fun y => (HO5.out.box.below y.is).cells.1
  have v1 : ∀ y : In (Abv w5), y.u.cell? ⟨b, 1, none⟩ = some (.int .i64 x'.epoch) := fun y => (HO5.out.box.below y.is).cells.2.1
  have v2 : ∀ y : In (Abv w5), y.u.cell? ⟨b, 2, none⟩ = some (.slice x'.mA x'.mn x'.mc) := fun y => (HO5.out.box.below y.is).cells.2.2.1
  have v3 : ∀ y : In (Abv w5), y.u.cell? ⟨b, 3, none⟩ = some (.slice x'.dA x'.dn x'.dc) := fun y => (HO5.out.box.below y.is).cells.2.2.2.1
  have v4 : ∀ y : In (Abv w5), y.u.cell? ⟨b, 4, none⟩ = some (.slice x'.iA x'.ir x'.ic) := fun y => (HO5.out.box.below y.is).cells.2.2.2.2
  go_wp2
  refine wp_region_mix (by kernel_rfl) (Cls (Abv w5)) [(0, 0), (1, 1), (2, 0), (3, 0), (4, 0), (5, 0), (6, 0), (7, 0), (8, 0), (9, 0), (10, 0), (11, 0), (12, 0), (13, 0), (14, 0), (15, 0), (16, 0), (17, 0), (18, 0), (19, 1), (20, 1), (21, 0), (22, 0), (23, 0), (24, 0), (25, 0), (26, 0), (27, 0), (28, 0), (29, 0), (30, 0), (31, 0), (32, 0)] (by kernel_rfl) (cls (Below.refl _ _).drew) ?_
  repeat (refine mix0 rfl (fun K hK => ?_); go_simp; refine hK _ ?_; clear hK K)
  refine mix1 rfl (fun K hK => ?_)
  go_simp
  refine (turns_any _ x' V (HO5.out.below (Below.refl _ _).drew).isV).mono ?_
  rintro e w6 ⟨rfl, hb6⟩
  have Hb6 : Hid (Below w5.heap.size w5 w6) := Lib.hid ((Below.refl _ _).drew.trans hb6)
  have HO6 := Lib.hid (HO5.out.below Hb6.out)
  have HB6 : Hid (Below b w w6) := Lib.hid (HB5.out.trans (Hb6.out.mono HBs5.out))
  have HBs6 : Hid (b ≤ w6.heap.size) := Lib.hid (Nat.le_of_lt HO6.out.box.lt)
  clear hb6
  refine ⟨_, rfl, hK _ _ (cls Hb6.out) ?_⟩
  clear hK K
  cases ht : turnsB V with
  | false =>
    have Hj : Hid (leaveB V by_ node = false) := Lib.hid (by unfold leaveB; rw [ht]; rfl)
    repeat (refine mix0 rfl (fun K hK => ?_); go_simp; refine hK _ ?_; clear hK K)
    refine mix1 rfl (fun K hK => ?_); go_simp; refine hK _ _ (cls Hb6.out) ?_; clear hK K
    refine mix1 rfl (fun K hK => ?_); go_simp; refine hK _ _ (cls Hb6.out) ?_; clear hK K
    repeat (refine mix0 rfl (fun K hK => ?_); go_simp; refine hK _ ?_; clear hK K)
    refine mixEnd ?_
    clear v0 v1 v2 v3 v4
    obtain ⟨v0, v1, v2, v3, v4⟩ := HO6.out.box.cells
    obtain ⟨r0, r1, r2, r3, r4⟩ := HO6.out.res.cells
    have f0 := HO6.out.res.free 0
    have f1 := HO6.out.res.free 1
    have f2 := HO6.out.res.free 2
    have f3 := HO6.out.res.free 3
    have f4 := HO6.out.res.free 4
    go_wp2
    clear v0 v1 v2 v3 v4 r0 r1 r2 r3 r4 f0 f1 f2 f3 f4
    obtain ⟨s0, s1, s2, s3, s4⟩ := (setV_box HO6.out.res x').cells
    exact bodyPost_ret (v := .tuple #[vV x', .bool false]) (by simp [results, Try.results17, go_sem, s0, s1, s2, s3, s4]) rfl ⟨x', by rw [Hj.out], by rw [Hb.out]; exact Hq.out _ _ HO6.out Hj.out, by rw [Hb.out]; exact (setV_mod _ _ _).below HB6.out (Nat.le_of_lt HO6.out.box.lt) (fun i e => by rw [show i = b + 1 from e]; omega)⟩
  | true =>
    have Ht := Lib.hid ht
    clear ht
    by_cases hbn : by_ = node
    · have hbn' : (by_ == node) = true := beq_yes hbn
      have Hj : Hid (leaveB V by_ node = false) := Lib.hid (by unfold leaveB; simp [hbn])
      clear hbn
      repeat (refine mix0 rfl (fun K hK => ?_); go_simp; refine hK _ ?_; clear hK K)
      refine mix1 rfl (fun K hK => ?_); go_simp; refine hK _ _ (cls Hb6.out) ?_; clear hK K
      refine mix1 rfl (fun K hK => ?_); go_simp; refine hK _ _ (cls Hb6.out) ?_; clear hK K
      repeat (refine mix0 rfl (fun K hK => ?_); go_simp; refine hK _ ?_; clear hK K)
      refine mixEnd ?_
      clear v0 v1 v2 v3 v4
      obtain ⟨v0, v1, v2, v3, v4⟩ := HO6.out.box.cells
      obtain ⟨r0, r1, r2, r3, r4⟩ := HO6.out.res.cells
      have f0 := HO6.out.res.free 0
      have f1 := HO6.out.res.free 1
      have f2 := HO6.out.res.free 2
      have f3 := HO6.out.res.free 3
      have f4 := HO6.out.res.free 4
      go_wp2
      clear v0 v1 v2 v3 v4 r0 r1 r2 r3 r4 f0 f1 f2 f3 f4
      obtain ⟨s0, s1, s2, s3, s4⟩ := (setV_box HO6.out.res x').cells
      exact bodyPost_ret (v := .tuple #[vV x', .bool false]) (by simp [results, Try.results17, go_sem, s0, s1, s2, s3, s4]) rfl ⟨x', by rw [Hj.out], by rw [Hb.out]; exact Hq.out _ _ HO6.out Hj.out, by rw [Hb.out]; exact (setV_mod _ _ _).below HB6.out (Nat.le_of_lt HO6.out.box.lt) (fun i e => by rw [show i = b + 1 from e]; omega)⟩
    · have hbn' : (by_ == node) = false := beq_no hbn
      have Hbn : Hid ((by_ != node) = true) := Lib.hid (bne_yes hbn)
      clear hbn
      by_cases hF : F = x'.mn
      · have hF' : ((F : Int) == (x'.mn : Int)) = true := beq_yes (by omega)
        have Hj : Hid (leaveB V by_ node = false) := Lib.hid (by unfold leaveB; rw [HF.out, RowM.len HO5.out.mem]; simp [hF])
        clear hF
        repeat (refine mix0 rfl (fun K hK => ?_); go_simp; refine hK _ ?_; clear hK K)
        refine mix1 rfl (fun K hK => ?_); go_simp; refine hK _ _ (cls Hb6.out) ?_; clear hK K
        refine mix1 rfl (fun K hK => ?_); go_simp; refine hK _ _ (cls Hb6.out) ?_; clear hK K
        repeat (refine mix0 rfl (fun K hK => ?_); go_simp; refine hK _ ?_; clear hK K)
        refine mixEnd ?_
        clear v0 v1 v2 v3 v4
        obtain ⟨v0, v1, v2, v3, v4⟩ := HO6.out.box.cells
        obtain ⟨r0, r1, r2, r3, r4⟩ := HO6.out.res.cells
        have f0 := HO6.out.res.free 0
        have f1 := HO6.out.res.free 1
        have f2 := HO6.out.res.free 2
        have f3 := HO6.out.res.free 3
        have f4 := HO6.out.res.free 4
        go_wp2
        clear v0 v1 v2 v3 v4 r0 r1 r2 r3 r4 f0 f1 f2 f3 f4
        obtain ⟨s0, s1, s2, s3, s4⟩ := (setV_box HO6.out.res x').cells
        exact bodyPost_ret (v := .tuple #[vV x', .bool false]) (by simp [results, Try.results17, go_sem, s0, s1, s2, s3, s4]) rfl ⟨x', by rw [Hj.out], by rw [Hb.out]; exact Hq.out _ _ HO6.out Hj.out, by rw [Hb.out]; exact (setV_mod _ _ _).below HB6.out (Nat.le_of_lt HO6.out.box.lt) (fun i e => by rw [show i = b + 1 from e]; omega)⟩
      · have hF' : ((F : Int) == (x'.mn : Int)) = false := beq_no (by omega)
        have hF2 : F < x'.mn := by omega
        have i1 : IntKind.i64.wrap ((x'.mn : Int) - 1) = (x'.mn : Int) - 1 := IntWalk.i64_in _ (by omega)
        have i2 : IntKind.i64.wrap (2 * ((x'.mn : Int) - 1)) = 2 * ((x'.mn : Int) - 1) := IntWalk.i64_in _ (by omega)
        obtain ⟨m, hm⟩ : ∃ m, V.mem[F]? = some m := ⟨_, List.getElem?_eq_getElem (by rw [RowM.len HO5.out.mem]; exact hF2)⟩
        have Hm := Lib.hid hm
        have Hj0 : Hid (leaveB V by_ node = (V.mem.any (pOf by_) && decide (x'.nodes < 2 * ((x'.mn : Int) - 1)))) := Lib.hid (by
          unfold leaveB
          rw [Ht.out, Hbn.out, HF.out, RowM.len HO5.out.mem, HO5.out.nodes]
          simp [hF2])
        clear hF hm
        repeat (refine mix0 rfl (fun K hK => ?_); go_simp; refine hK _ ?_; clear hK K)
        refine mix1 rfl (fun K hK => ?_)
        go_simp
        refine (of_any by_ _).mono ?_
        rintro e w7 ⟨q2, rfl, hb7, hcl⟩
        have Hb7 : Hid (Below w5.heap.size w5 w7) := Lib.hid (bnext Hb6.out hb7)
        have Hcl2 := Lib.hid hcl
        clear hb7 hcl
        refine ⟨_, rfl, hK _ _ (cls Hb7.out) ?_⟩
        clear hK K
        refine mix1 rfl (fun K hK => ?_)
        go_simp
        refine (some_of _ _ _ _ V.mem (HO5.out.below Hb7.out).mem.isL _ _ Hcl2.out).mono ?_
        rintro e w8 ⟨rfl, hb8⟩
        have Hb8 : Hid (Below w5.heap.size w5 w8) := Lib.hid (bnext Hb7.out hb8)
        have HO8 := Lib.hid (HO5.out.below Hb8.out)
        have HB8 : Hid (Below b w w8) := Lib.hid (HB5.out.trans (Hb8.out.mono HBs5.out))
        have HBs8 : Hid (b ≤ w8.heap.size) := Lib.hid (Nat.le_of_lt HO8.out.box.lt)
        clear hb8
        refine ⟨_, rfl, hK _ _ (cls Hb8.out) ?_⟩
        clear hK K
        cases ha : V.mem.any (pOf by_) with
        | false =>
          have Hj : Hid (leaveB V by_ node = false) := Lib.hid (by rw [Hj0.out, ha]; rfl)
          repeat (refine mix0 rfl (fun K hK => ?_); go_simp; refine hK _ ?_; clear hK K)
          refine mixEnd ?_
          clear v0 v1 v2 v3 v4 i1 i2
          obtain ⟨v0, v1, v2, v3, v4⟩ := HO8.out.box.cells
          obtain ⟨r0, r1, r2, r3, r4⟩ := HO8.out.res.cells
          have f0 := HO8.out.res.free 0
          have f1 := HO8.out.res.free 1
          have f2 := HO8.out.res.free 2
          have f3 := HO8.out.res.free 3
          have f4 := HO8.out.res.free 4
          go_wp2
          clear v0 v1 v2 v3 v4 r0 r1 r2 r3 r4 f0 f1 f2 f3 f4
          obtain ⟨s0, s1, s2, s3, s4⟩ := (setV_box HO8.out.res x').cells
          exact bodyPost_ret (v := .tuple #[vV x', .bool false]) (by simp [results, Try.results17, go_sem, s0, s1, s2, s3, s4]) rfl ⟨x', by rw [Hj.out], by rw [Hb.out]; exact Hq.out _ _ HO8.out Hj.out, by rw [Hb.out]; exact (setV_mod _ _ _).below HB8.out (Nat.le_of_lt HO8.out.box.lt) (fun i e => by rw [show i = b + 1 from e]; omega)⟩
        | true =>
          have Ha := Lib.hid ha
          clear ha
          by_cases hh : x'.nodes < 2 * ((x'.mn : Int) - 1)
          · have hh' : decide (2 * ((x'.mn : Int) - 1) ≤ x'.nodes) = false := by simp; omega
            have Hj : Hid (leaveB V by_ node = true) := Lib.hid (by rw [Hj0.out, Ha.out]; simp [hh])
            have Hjv : Hid (leaveV V by_ node = turnV (dieV V F m)) := Lib.hid (by unfold leaveV; rw [Hj.out, HF.out, Hm.out]; rfl)
            clear hh
            repeat (refine mix0 rfl (fun K hK => ?_); go_simp; refine hK _ ?_; clear hK K)
            refine mixEnd ?_
            clear v0 v1 v2 v3 v4 i1 i2 hF' hFl hmn
            obtain ⟨e0, e1, _, _⟩ := turns_epoch Ht.out
            have He0 := Lib.hid e0
            have He1 := Lib.hid e1
            clear e0 e1
            go_wp2_with fail
            refine (die_any _ _ _ _ x' V HO8.out HBs8.out F m Hm.out (by have := Hs.out.mem; omega) (by have := Hs.out.dead; omega)).mono ?_
            rintro e w9 ⟨rfl, x9, hO9, hB9⟩
            have HO9 := Lib.hid hO9
            have HB9 : Hid (Below b w w9) := Lib.hid (HB8.out.trans hB9)
            clear hO9 hB9
            go_wp2_with fail
            refine (turn_any _ _ _ _ x9 (dieV V F m) HO9.out He0.out He1.out).mono ?_
            rintro e w10 ⟨rfl, x10, hO10, hB10⟩
            have HO10 : Hid (Ow w10 b b (b + 1) x10 (turnV (dieV V F m))) := Lib.hid hO10
            have HB10 : Hid (Below b w w10) := Lib.hid (HB9.out.trans hB10)
            clear hO10 hB10
            obtain ⟨v0, v1, v2, v3, v4⟩ := HO10.out.box.cells
            obtain ⟨r0, r1, r2, r3, r4⟩ := HO10.out.res.cells
            have f0 := HO10.out.res.free 0
            have f1 := HO10.out.res.free 1
            have f2 := HO10.out.res.free 2
            have f3 := HO10.out.res.free 3
            have f4 := HO10.out.res.free 4
            go_wp2
            clear v0 v1 v2 v3 v4 r0 r1 r2 r3 r4 f0 f1 f2 f3 f4
            obtain ⟨s0, s1, s2, s3, s4⟩ := (setV_box HO10.out.res x10).cells
            exact bodyPost_ret (v := .tuple #[vV x10, .bool true]) (by simp [results, Try.results17, go_sem, s0, s1, s2, s3, s4]) rfl ⟨x10, by rw [Hj.out], by rw [Hb.out]; rw [Hjv.out]; exact HO10.out.tell, by rw [Hb.out]; exact (setV_mod _ _ _).below HB10.out (Nat.le_of_lt HO10.out.box.lt) (fun i e => by rw [show i = b + 1 from e]; omega)⟩
          · have hh' : decide (2 * ((x'.mn : Int) - 1) ≤ x'.nodes) = true := by simp; omega
            have Hj : Hid (leaveB V by_ node = false) := Lib.hid (by rw [Hj0.out]; simp [hh])
            clear hh
            repeat (refine mix0 rfl (fun K hK => ?_); go_simp; refine hK _ ?_; clear hK K)
            refine mixEnd ?_
            clear v0 v1 v2 v3 v4 i1 i2
            obtain ⟨v0, v1, v2, v3, v4⟩ := HO8.out.box.cells
            obtain ⟨r0, r1, r2, r3, r4⟩ := HO8.out.res.cells
            have f0 := HO8.out.res.free 0
            have f1 := HO8.out.res.free 1
            have f2 := HO8.out.res.free 2
            have f3 := HO8.out.res.free 3
            have f4 := HO8.out.res.free 4
            go_wp2
            clear v0 v1 v2 v3 v4 r0 r1 r2 r3 r4 f0 f1 f2 f3 f4
            obtain ⟨s0, s1, s2, s3, s4⟩ := (setV_box HO8.out.res x').cells
            exact bodyPost_ret (v := .tuple #[vV x', .bool false]) (by simp [results, Try.results17, go_sem, s0, s1, s2, s3, s4]) rfl ⟨x', by rw [Hj.out], by rw [Hb.out]; exact Hq.out _ _ HO8.out Hj.out, by rw [Hb.out]; exact (setV_mod _ _ _).below HB8.out (Nat.le_of_lt HO8.out.box.lt) (fun i e => by rw [show i = b + 1 from e]; omega)⟩
end Go.Proofs.Ytnbhjehaecifcaa
