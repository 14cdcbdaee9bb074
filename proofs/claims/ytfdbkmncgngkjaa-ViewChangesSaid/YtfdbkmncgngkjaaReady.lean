/- Ready, Bury. -/
import Derived.Test.YtfdbkmncgngkjaaLeave
namespace Go.Proofs.Ytfdbkmncgngkjaa
open Go.RowKit

def readyB (V : Vw) (node inc : Int) : Bool := chkB V && (match V.mem[V.mem.findIdx (pIs node inc)]? with | some m => !m.2.2 | none => false)
def readyV (V : Vw) (node inc : Int) : Vw := if readyB V node inc then (match V.mem[V.mem.findIdx (pIs node inc)]? with | some m => { V with mem := V.mem.set (V.mem.findIdx (pIs node inc)) (m.1, m.2.1, true) } | none => V) else V
def buryB (V : Vw) (node inc : Int) : Bool := chkB V && decide (V.dead.findIdx (pIs node inc) < V.dead.length)
def buryV (V : Vw) (node inc : Int) : Vw := if buryB V node inc then { V with dead := V.dead.take (V.dead.findIdx (pIs node inc)) ++ V.dead.drop (V.dead.findIdx (pIs node inc) + 1) } else V
set_option maxHeartbeats 8000000 in
theorem Ready_any (w : World) (x : Vx) (V : Vw) (h : IsV w x V) (node inc : Int) (hs : Sm V) :
    Calls Try.prog 27 #[vV x, .int .i64 node, .int .i64 inc] w fun e w' => ∃ x', e = .returned (.tuple #[vV x', .bool (readyB V node inc)]) ∧ Told w' w.heap.size x' (readyV V node inc) ∧ Below w.heap.size w w' := by
  have Hh := Lib.hid h
  have Hs := Lib.hid hs
  clear h hs
  go_enter Try.func27, Try.ntmps27
  go_wp2_with fail
  obtain ⟨w1, Hw1⟩ : ∃ w1, Hid ((w.alloc (.cells (vC x) 25)).alloc (.cells (vC noVx) 25) = w1) := ⟨_, Lib.hid rfl⟩
  obtain ⟨b, Hb⟩ : ∃ b, Hid (w.heap.size = b) := ⟨_, Lib.hid rfl⟩
  have HA : Hid (BoxV w1 b x) := Lib.hid (by rw [← Hw1.out, ← Hb.out]; exact (BoxV.new w x).below ((Below.refl _ _).alloc (Nat.le_refl _) _))
  have HR : Hid (BoxV w1 (b + 1) noVx) := Lib.hid (by
    have := BoxV.new (w.alloc (.cells (vC x) 25)) noVx
    rw [Hw1.out] at this
    simpa [Hb.out] using this)
  have Hb1 : Hid (Below b w w1) := Lib.hid (by rw [← Hb.out, ← Hw1.out]; exact balloc ((Below.refl _ _).alloc (Nat.le_refl _) _) _)
  have Hsz : Hid (w1.heap.size = b + 2) := Lib.hid (by rw [← Hw1.out, ← Hb.out]; simp)
  rw [show ((w.alloc (.cells #[.int .i64 x.nodes, .int .i64 x.epoch, .slice x.mA x.mn x.mc, .slice x.dA x.dn x.dc, .slice x.iA x.ir x.ic] 25)).alloc (.cells #[.int .i64 0, .int .i64 0, .slice none 0 0, .slice none 0 0, .slice none 0 0] 25)) = w1 from Hw1.out, Hb.out]
  refine (own_any _ x V (Hh.out.below (by rw [Hb.out]; exact Hb1.out)) (by have := Hs.out.mem; omega) (by have := Hs.out.dead; omega) (by have := Hs.out.incs; omega)).mono ?_
  rw [Hsz.out]
  rintro e w2 ⟨x', rfl, hb2, hT⟩
  have HA2 := Lib.hid (HA.out.below (by rw [Hsz.out]; exact hb2))
  have HR2 := Lib.hid (HR.out.below (by rw [Hsz.out]; exact hb2))
  have HO0 := Lib.hid (ow_start hT HA2.out HR2.out)
  have HB0 : Hid (Below b w (setV w2 b x')) := Lib.hid ((setV_mod w2 b x').below (Hb1.out.trans (hb2.mono (by omega))) (by have := hb2.size; have := Hsz.out; omega) (fun i e => by rw [show i = b from e]; exact Nat.le_refl _))
  obtain ⟨v0, v1, v2, v3, v4⟩ := HA2.out.cells
  have f0 := HA2.out.free 0
  have f1 := HA2.out.free 1
  have f2 := HA2.out.free 2
  have f3 := HA2.out.free 3
  have f4 := HA2.out.free 4
  clear hT hb2
  go_wp2
  obtain ⟨w3, Hw3⟩ : ∃ w3, Hid (setV w2 b x' = w3) := ⟨_, Lib.hid rfl⟩
  rw [show ((((w2.setCell ⟨b, 0, none⟩ (.int .i64 x'.nodes)).setCell ⟨b, 1, none⟩ (.int .i64 x'.epoch)).setCell ⟨b, 2, none⟩ (.slice x'.mA x'.mn x'.mc)).setCell ⟨b, 3, none⟩ (.slice x'.dA x'.dn x'.dc)).setCell ⟨b, 4, none⟩ (.slice x'.iA x'.ir x'.ic) = w3 from Hw3.out]
  have HO : Hid (Ow w3 b b (b + 1) x' V) := Lib.hid (by rw [← Hw3.out]; exact HO0.out)
  have HB : Hid (Below b w w3) := Lib.hid (by rw [← Hw3.out]; exact HB0.out)
  have HBs : Hid (b ≤ w3.heap.size) := Lib.hid (Nat.le_of_lt HO.out.box.lt)
  clear v0 v1 v2 v3 v4 f0 f1 f2 f3 f4
  have Hq : Hid (∀ W X, Ow W b b (b + 1) X V → readyB V node inc = false → Told (setV W (b + 1) X) b X (readyV V node inc)) := Lib.hid (fun W X hO hj => by
    have := hO.tell
    unfold readyV
    rw [hj]
    exact this)
  obtain ⟨F, HF⟩ : ∃ F, Hid (V.mem.findIdx (pIs node inc) = F) := ⟨_, Lib.hid rfl⟩
  have v2 : ∀ y : In (Abv w3), y.u.cell? ⟨b, 2, none⟩ = some (.slice x'.mA x'.mn x'.mc) := fun y => (HO.out.box.below y.is).cells.2.2.1
  refine wp_region_mix (by kernel_rfl) (Cls (Abv w3)) [(0, 0), (1, 0), (2, 0), (3, 0), (4, 1), (5, 1), (6, 0)] (by kernel_rfl) (cls (Below.refl _ _).drew) ?_
  repeat (refine mix0 rfl (fun K hK => ?_); go_simp; refine hK _ ?_; clear hK K)
  refine mix1 rfl (fun K hK => ?_)
  go_simp
  refine (is_any node inc _).mono ?_
  rintro e w4 ⟨q, r, rfl, hb4, hcl⟩
  have Hb4 : Hid (Below w3.heap.size w3 w4) := Lib.hid ((Below.refl _ _).drew.trans hb4)
  have Hcl := Lib.hid hcl
  clear hb4 hcl
  refine ⟨_, rfl, hK _ _ (cls Hb4.out) ?_⟩
  clear hK K
  refine mix1 rfl (fun K hK => ?_)
  go_simp
  refine (find_is _ _ _ _ V.mem (HO.out.below Hb4.out).mem.isL _ _ _ Hcl.out).mono ?_
  rw [HF.out]
  rintro e w5 ⟨rfl, hb5⟩
  have Hb5 : Hid (Below w3.heap.size w3 w5) := Lib.hid (bnext Hb4.out hb5)
  clear hb5
  refine ⟨_, rfl, hK _ _ (cls Hb5.out) ?_⟩
  clear hK K
  repeat (refine mix0 rfl (fun K hK => ?_); go_simp; refine hK _ ?_; clear hK K)
  refine mixEnd ?_
  clear v2
  have HO5 := Lib.hid (HO.out.below Hb5.out)
  have HB5 : Hid (Below b w w5) := Lib.hid (HB.out.trans (Hb5.out.mono HBs.out))
  have HBs5 : Hid (b ≤ w5.heap.size) := Lib.hid (Nat.le_of_lt HO5.out.box.lt)
  have hFl : F ≤ x'.mn := by rw [← HF.out, ← RowM.len HO5.out.mem]; exact List.findIdx_le_length
  have hmn : x'.mn ≤ 800 := by rw [← RowM.len HO5.out.mem]; exact Hs.out.mem
  obtain ⟨v0, v1, v2, v3, v4⟩ := HO5.out.box.cells
  go_wp2_with fail
  refine (Check_any _ x' V HO5.out.isV).mono ?_
  rintro e w6 ⟨rfl, hb6⟩
  have HO6 := Lib.hid (HO5.out.below hb6)
  have HB6 : Hid (Below b w w6) := Lib.hid (HB5.out.trans (hb6.mono HBs5.out))
  have HBs6 : Hid (b ≤ w6.heap.size) := Lib.hid (Nat.le_of_lt HO6.out.box.lt)
  clear hb6 v0 v1 v2 v3 v4
  cases hc : chkB V with
  | false =>
    have he : chkE V = 1 := by simp [chkE, hc]
    have hne : ((1 : Int) != 0) = true := rfl
    have Hj : Hid (readyB V node inc = false) := Lib.hid (by unfold readyB; rw [hc]; rfl)
    clear hc
    obtain ⟨v0, v1, v2, v3, v4⟩ := HO6.out.box.cells
    obtain ⟨r0, r1, r2, r3, r4⟩ := HO6.out.res.cells
    have f0 := HO6.out.res.free 0
    have f1 := HO6.out.res.free 1
    have f2 := HO6.out.res.free 2
    have f3 := HO6.out.res.free 3
    have f4 := HO6.out.res.free 4
    go_wp2
    clear v0 v1 v2 v3 v4 r0 r1 r2 r3 r4 f0 f1 f2 f3 f4
    obtain ⟨s0, s1, s2, s3, s4⟩ := (setV_box HO6.out.res x').cells
    exact bodyPost_ret (v := .tuple #[vV x', .bool false]) (by simp [results, Try.results27, go_sem, s0, s1, s2, s3, s4]) rfl ⟨x', by rw [Hj.out], by rw [Hb.out]; exact Hq.out _ _ HO6.out Hj.out, by rw [Hb.out]; exact (setV_mod _ _ _).below HB6.out (Nat.le_of_lt HO6.out.box.lt) (fun i e => by rw [show i = b + 1 from e]; omega)⟩
  | true =>
    have he : chkE V = 0 := by simp [chkE, hc]
    have hne : ((0 : Int) != 0) = false := rfl
    have Hc := Lib.hid hc
    clear hc
    by_cases hF : F = x'.mn
    · have hF' : ((F : Int) == (x'.mn : Int)) = true := beq_yes (by omega)
      have Hj : Hid (readyB V node inc = false) := Lib.hid (by unfold readyB; rw [HF.out, List.getElem?_eq_none (by rw [RowM.len HO5.out.mem, hF]; exact Nat.le_refl _)]; simp)
      clear hF
      obtain ⟨v0, v1, v2, v3, v4⟩ := HO6.out.box.cells
      obtain ⟨r0, r1, r2, r3, r4⟩ := HO6.out.res.cells
      have f0 := HO6.out.res.free 0
      have f1 := HO6.out.res.free 1
      have f2 := HO6.out.res.free 2
      have f3 := HO6.out.res.free 3
      have f4 := HO6.out.res.free 4
      go_wp2
      clear v0 v1 v2 v3 v4 r0 r1 r2 r3 r4 f0 f1 f2 f3 f4
      obtain ⟨s0, s1, s2, s3, s4⟩ := (setV_box HO6.out.res x').cells
      exact bodyPost_ret (v := .tuple #[vV x', .bool false]) (by simp [results, Try.results27, go_sem, s0, s1, s2, s3, s4]) rfl ⟨x', by rw [Hj.out], by rw [Hb.out]; exact Hq.out _ _ HO6.out Hj.out, by rw [Hb.out]; exact (setV_mod _ _ _).below HB6.out (Nat.le_of_lt HO6.out.box.lt) (fun i e => by rw [show i = b + 1 from e]; omega)⟩
    · have hF' : ((F : Int) == (x'.mn : Int)) = false := beq_no (by omega)
      have hF2 : F < x'.mn := by omega
      obtain ⟨m, hm⟩ : ∃ m, V.mem[F]? = some m := ⟨_, List.getElem?_eq_getElem (by rw [RowM.len HO5.out.mem]; exact hF2)⟩
      have Hm := Lib.hid hm
      obtain ⟨g, off, eA, hg, hcs⟩ := HO6.out.mem.isL.cells (by omega)
      have c2 := (hcs F m hm).2.2
      have hix := idxM (n := x'.mn) (c := x'.mc) eA hF2
      have HeA := Lib.hid eA
      clear hF hm hcs eA
      cases hr : m.2.2 with
      | true =>
        have Hj : Hid (readyB V node inc = false) := Lib.hid (by unfold readyB; rw [HF.out, Hm.out]; simp [hr])
        rw [hr] at c2
        clear hr
        obtain ⟨v0, v1, v2, v3, v4⟩ := HO6.out.box.cells
        obtain ⟨r0, r1, r2, r3, r4⟩ := HO6.out.res.cells
        have f0 := HO6.out.res.free 0
        have f1 := HO6.out.res.free 1
        have f2 := HO6.out.res.free 2
        have f3 := HO6.out.res.free 3
        have f4 := HO6.out.res.free 4
        go_wp2
        clear v0 v1 v2 v3 v4 r0 r1 r2 r3 r4 f0 f1 f2 f3 f4
        obtain ⟨s0, s1, s2, s3, s4⟩ := (setV_box HO6.out.res x').cells
        exact bodyPost_ret (v := .tuple #[vV x', .bool false]) (by simp [results, Try.results27, go_sem, s0, s1, s2, s3, s4]) rfl ⟨x', by rw [Hj.out], by rw [Hb.out]; exact Hq.out _ _ HO6.out Hj.out, by rw [Hb.out]; exact (setV_mod _ _ _).below HB6.out (Nat.le_of_lt HO6.out.box.lt) (fun i e => by rw [show i = b + 1 from e]; omega)⟩
      | false =>
        have Hj : Hid (readyB V node inc = true) := Lib.hid (by unfold readyB; rw [Hc.out, HF.out, Hm.out]; simp [hr])
        have Hjv : Hid (readyV V node inc = { V with mem := V.mem.set F (m.1, m.2.1, true) }) := Lib.hid (by unfold readyV; rw [Hj.out, HF.out, Hm.out]; rfl)
        rw [hr] at c2
        clear hr
        have fr : w6.frozen? ⟨g, off + F * 3 + 2, none⟩ = false := by
          have hrr := HO6.out.mem
          rw [HeA.out] at hrr
          obtain ⟨_, q1, _, _, _, q5⟩ := Row.cells' hrr
          have := q5 (F * 3 + 2) (by omega)
          rwa [← Nat.add_assoc] at this
        have HO7 : Hid (Ow (w6.setCell ⟨g, off + F * 3 + 2, none⟩ (.bool true)) b b (b + 1) x' { V with mem := V.mem.set F (m.1, m.2.1, true) }) := Lib.hid (HO6.out.ready HeA.out Hm.out true)
        have HB7 : Hid (Below b w (w6.setCell ⟨g, off + F * 3 + 2, none⟩ (.bool true))) := Lib.hid (by
          exact HB6.out.setCell (by
            show b ≤ g
            exact (HO6.out.newM g (by rw [mS, HeA.out]; rfl)).1) _)
        have gb : ¬ g = b := (HO6.out.newM g (by rw [mS, HeA.out]; rfl)).2.1
        have gr : ¬ g = b + 1 := (HO6.out.newM g (by rw [mS, HeA.out]; rfl)).2.2
        have gb' : ¬ b = g := fun e => gb e.symm
        have gr' : ¬ b + 1 = g := fun e => gr e.symm
        obtain ⟨v0, v1, v2, v3, v4⟩ := HO6.out.box.cells
        obtain ⟨r0, r1, r2, r3, r4⟩ := HO6.out.res.cells
        have f0 := HO6.out.res.free 0
        have f1 := HO6.out.res.free 1
        have f2 := HO6.out.res.free 2
        have f3 := HO6.out.res.free 3
        have f4 := HO6.out.res.free 4
        go_wp2
        clear v0 v1 v2 v3 v4 r0 r1 r2 r3 r4 f0 f1 f2 f3 f4
        obtain ⟨s0, s1, s2, s3, s4⟩ := (setV_box HO7.out.res x').cells
        exact bodyPost_ret (v := .tuple #[vV x', .bool true]) (by simp [results, Try.results27, go_sem, s0, s1, s2, s3, s4]) rfl ⟨x', by rw [Hj.out], by rw [Hb.out]; rw [Hjv.out]; exact HO7.out.tell, by rw [Hb.out]; exact (setV_mod _ _ _).below HB7.out (Nat.le_of_lt HO7.out.box.lt) (fun i e => by rw [show i = b + 1 from e]; omega)⟩
end Go.Proofs.Ytfdbkmncgngkjaa
