/- Join. -/
import Derived.Test.YtnbhjehaecifcaaIdx
namespace Go.Proofs.Ytnbhjehaecifcaa
open Go.RowKit

theorem ow_start {w2 : World} {b : Nat} {x x' : Vx} {V : Vw} (hT : Told w2 (b + 2) x' V) (hb : BoxV w2 b x) (hr : BoxV w2 (b + 1) noVx) : Ow (setV w2 b x') b b (b + 1) x' V := by
  have m := setV_mod w2 b x'
  have h := hT.kept m (fun g e => by
    have e' : g = b := e
    subst e'
    exact ⟨fun h => (by have := hT.newM _ h; omega), fun h => (by have := hT.newD _ h; omega), fun h => (by have := hT.newI _ h; omega)⟩)
  exact ⟨h.nodes, h.epoch, setV_box hb x', hr.kept m (by omega), h.mem, h.dead, h.incs, Nat.le_refl _, by omega, by omega, fun g hg => (by have := hT.newM g hg; omega), fun g hg => (by have := hT.newD g hg; omega), fun g hg => (by have := hT.newI g hg; omega), h.md, h.mi, h.di⟩
/-- How many may be in lists. -/
structure Sm (V : Vw) : Prop where
  mem : V.mem.length ≤ 800
  dead : V.dead.length ≤ 800
  incs : V.incs.length ≤ 800
def ins (l : List Mb) (i : Nat) (m : Mb) : List Mb := l.take i ++ [m] ++ l.drop i
def joinOk (V : Vw) (node : Int) : Bool := turnsB V && (thereB V node && decide (incAt V node < 1099511627776))
/-- What it was so far is dead. -/
def diedV (V : Vw) (node : Int) : Vw := match V.mem[V.mem.findIdx (pOf node)]? with | some m => dieV V (V.mem.findIdx (pOf node)) m | none => V
def comeV (V : Vw) (node z : Int) : Vw := { V with incs := V.incs.set node.toNat z, mem := ins V.mem (V.mem.findIdx (pBehind node)) (node, z, false) }
def turnV (V : Vw) : Vw := { V with mem := V.mem.map unr, epoch := V.epoch + 1 }
def joinV (V : Vw) (node : Int) : Vw := if joinOk V node then turnV (comeV (diedV V node) node (incAt V node + 1)) else V
def joinN (V : Vw) (node : Int) : Int := if joinOk V node then incAt V node + 1 else 0
theorem died_len (V : Vw) (node : Int) : (diedV V node).mem.length ≤ V.mem.length ∧ (diedV V node).dead.length ≤ V.dead.length + 1 ∧ (diedV V node).incs = V.incs ∧ (diedV V node).epoch = V.epoch ∧ (diedV V node).nodes = V.nodes := by
  unfold diedV
  split
  · refine ⟨?_, ?_, rfl, rfl, rfl⟩
    · simp [dieV]; omega
    · simp [dieV]; omega
  · exact ⟨Nat.le_refl _, Nat.le_succ _, rfl, rfl, rfl⟩
theorem turns_epoch {V : Vw} (h : turnsB V = true) : 0 ≤ V.epoch ∧ V.epoch < 1099511627776 ∧ (V.incs.length : Int) = V.nodes ∧ ∀ z ∈ V.incs, 0 ≤ z := by
  simp only [turnsB, chkB, countsB, Bool.and_eq_true, decide_eq_true_eq, Bool.not_eq_true', List.any_eq_false] at h
  obtain ⟨⟨⟨_, _, he, hl, hz⟩, _⟩, h1, _⟩ := h
  refine ⟨?_, h1, hl, fun z hz' => ?_⟩
  · simp [wrongB] at he; omega
  · have := hz z hz'; simp [wrongB] at this; omega
set_option maxHeartbeats 8000000 in
theorem Join_any (w : World) (x : Vx) (V : Vw) (h : IsV w x V) (node : Int) (hs : Sm V) :
    Calls Try.prog 16 #[vV x, .int .i64 node] w fun e w' => ∃ x', e = .returned (.tuple #[vV x', .int .i64 (joinN V node)]) ∧ Told w' w.heap.size x' (joinV V node) ∧ Below w.heap.size w w' := by
  have Hh := Lib.hid h
  have Hs := Lib.hid hs
  clear h hs
  go_enter Try.func16, Try.ntmps16
  go_wp2_with fail
  obtain ⟨w1, Hw1⟩ : ∃ w1, Hid ((w.alloc (.cells (vC x) 25)).alloc (.cells (vC noVx) 25) = w1) := ⟨_, Lib.hid rfl⟩
  obtain ⟨b, Hb⟩ : ∃ b, Hid (w.heap.size = b) := ⟨_, Lib.hid rfl⟩
  have HA : Hid (BoxV w1 b x) := Lib.hid (by rw [← Hw1.out, ← Hb.out]; exact (BoxV.new w x).below ((Below.refl _ _).alloc (Nat.le_refl _) _))
  have HR : Hid (BoxV w1 (b + 1) noVx) := Lib.hid (by
    have := BoxV.new (w.alloc (.cells (vC x) 25)) noVx
    rw [Hw1.out] at this
    simpa [Hb.out] using this)
  have Hb1 : Hid (Below b w w1) := Lib.hid (by rw [← Hb.out, ← Hw1.out]; exact balloc ((Below.refl _ _).alloc (Nat.le_refl _) _) _)
  have Hsz : Hid (w1.heap.size = b + 2) := Lib.hid (by rw [← Hw1.out, ← Hb.out]; simp)
  rw [show ((w.alloc (.cells #[.int .i64 x.nodes, .int .i64 x.epoch, .slice x.mA x.mn x.mc, .slice x.dA x.dn x.dc, .slice x.iA x.ir x.ic] 25)).alloc (.cells #[.int .i64 0, .int .i64 0, .slice none 0 0, .slice none 0 0, .slice none 0 0] 25)) = w1 from Hw1.out, Hb.out]
  refine (own_any _ x V (Hh.out.below (by rw [Hb.out]; exact Hb1.out)) (by have := Hs.out.mem; omega) (by have := Hs.out.dead; omega) (by have := Hs.out.incs; omega)).mono ?_
  rw [Hsz.out]
  rintro e w2 ⟨x', rfl, hb2, hT⟩
  have HA2 := Lib.hid (HA.out.below (by rw [Hsz.out]; exact hb2))
  have HR2 := Lib.hid (HR.out.below (by rw [Hsz.out]; exact hb2))
  have HO0 := Lib.hid (ow_start hT HA2.out HR2.out)
  have HB0 : Hid (Below b w (setV w2 b x')) := Lib.hid ((setV_mod w2 b x').below (Hb1.out.trans (hb2.mono (by omega))) (by have := hb2.size; have := Hsz.out; omega) (fun i e => by rw [show i = b from e]; exact Nat.le_refl _))
  obtain ⟨v0, v1, v2, v3, v4⟩ := HA2.out.cells
  have f0 := HA2.out.free 0
  have f1 := HA2.out.free 1
  have f2 := HA2.out.free 2
  have f3 := HA2.out.free 3
  have f4 := HA2.out.free 4
  clear hT hb2
  go_wp2_with fail
  obtain ⟨w3, Hw3⟩ : ∃ w3, Hid (setV w2 b x' = w3) := ⟨_, Lib.hid rfl⟩
  rw [show ((((w2.setCell ⟨b, 0, none⟩ (.int .i64 x'.nodes)).setCell ⟨b, 1, none⟩ (.int .i64 x'.epoch)).setCell ⟨b, 2, none⟩ (.slice x'.mA x'.mn x'.mc)).setCell ⟨b, 3, none⟩ (.slice x'.dA x'.dn x'.dc)).setCell ⟨b, 4, none⟩ (.slice x'.iA x'.ir x'.ic) = w3 from Hw3.out]
  have HO : Hid (Ow w3 b b (b + 1) x' V) := Lib.hid (by rw [← Hw3.out]; exact HO0.out)
  have HB : Hid (Below b w w3) := Lib.hid (by rw [← Hw3.out]; exact HB0.out)
  have HBs : Hid (b ≤ w3.heap.size) := Lib.hid (Nat.le_of_lt HO.out.box.lt)
  clear v0 v1 v2 v3 v4 f0 f1 f2 f3 f4
  have Hq : Hid (∀ W X, Ow W b b (b + 1) X V → joinOk V node = false → Told (setV W (b + 1) X) b X (joinV V node)) := Lib.hid (fun W X hO hj => by
    have := hO.tell
    unfold joinV
    rw [hj]
    exact this)
  refine (turns_any _ x' V HO.out.isV).mono ?_
  rintro e w4 ⟨rfl, hb4⟩
  have HO4 := Lib.hid (HO.out.below hb4)
  have HB4 : Hid (Below b w w4) := Lib.hid (HB.out.trans (hb4.mono HBs.out))
  have HBs4 : Hid (b ≤ w4.heap.size) := Lib.hid (Nat.le_of_lt HO4.out.box.lt)
  clear hb4
  cases ht : turnsB V with
  | false =>
    have Hj : Hid (joinOk V node = false) := Lib.hid (by unfold joinOk; rw [ht]; rfl)
    obtain ⟨v0, v1, v2, v3, v4⟩ := HO4.out.box.cells
    obtain ⟨r0, r1, r2, r3, r4⟩ := HO4.out.res.cells
    have f0 := HO4.out.res.free 0
    have f1 := HO4.out.res.free 1
    have f2 := HO4.out.res.free 2
    have f3 := HO4.out.res.free 3
    have f4 := HO4.out.res.free 4
    go_wp2
    clear v0 v1 v2 v3 v4 r0 r1 r2 r3 r4 f0 f1 f2 f3 f4
    obtain ⟨s0, s1, s2, s3, s4⟩ := (setV_box HO4.out.res x').cells
    exact bodyPost_ret (v := .tuple #[vV x', .int .i64 0]) (by simp [results, Try.results16, go_sem, s0, s1, s2, s3, s4]) rfl ⟨x', by unfold joinN; rw [Hj.out]; rfl, by rw [Hb.out]; exact Hq.out _ _ HO4.out Hj.out, by rw [Hb.out]; exact (setV_mod _ _ _).below HB4.out (Nat.le_of_lt HO4.out.box.lt) (fun i e => by rw [show i = b + 1 from e]; omega)⟩
  | true =>
    obtain ⟨e0, e1, el, ez⟩ := turns_epoch ht
    have Ht := Lib.hid ht
    have He0 := Lib.hid e0
    have He1 := Lib.hid e1
    have Hel := Lib.hid el
    have Hez := Lib.hid ez
    obtain ⟨v0, v1, v2, v3, v4⟩ := HO4.out.box.cells
    clear e0 e1 el ez ht
    go_wp2_with fail
    refine (there_any _ x' V HO4.out.nodes node).mono ?_
    rintro e w5 ⟨rfl, hb5⟩
    have HO5 := Lib.hid (HO4.out.below hb5)
    have HB5 : Hid (Below b w w5) := Lib.hid (HB4.out.trans (hb5.mono HBs4.out))
    have HBs5 : Hid (b ≤ w5.heap.size) := Lib.hid (Nat.le_of_lt HO5.out.box.lt)
    clear hb5 v0 v1 v2 v3 v4
    cases ht : thereB V node with
    | false =>
      have Hj : Hid (joinOk V node = false) := Lib.hid (by unfold joinOk; rw [ht]; simp)
      obtain ⟨v0, v1, v2, v3, v4⟩ := HO5.out.box.cells
      obtain ⟨r0, r1, r2, r3, r4⟩ := HO5.out.res.cells
      have f0 := HO5.out.res.free 0
      have f1 := HO5.out.res.free 1
      have f2 := HO5.out.res.free 2
      have f3 := HO5.out.res.free 3
      have f4 := HO5.out.res.free 4
      go_wp2
      clear v0 v1 v2 v3 v4 r0 r1 r2 r3 r4 f0 f1 f2 f3 f4
      obtain ⟨s0, s1, s2, s3, s4⟩ := (setV_box HO5.out.res x').cells
      exact bodyPost_ret (v := .tuple #[vV x', .int .i64 0]) (by simp [results, Try.results16, go_sem, s0, s1, s2, s3, s4]) rfl ⟨x', by unfold joinN; rw [Hj.out]; rfl, by rw [Hb.out]; exact Hq.out _ _ HO5.out Hj.out, by rw [Hb.out]; exact (setV_mod _ _ _).below HB5.out (Nat.le_of_lt HO5.out.box.lt) (fun i e => by rw [show i = b + 1 from e]; omega)⟩
    | true =>
      have Hth := Lib.hid ht
      obtain ⟨k, rfl⟩ : ∃ k : Nat, node = (k : Int) := by
        simp only [thereB, Bool.and_eq_true, decide_eq_true_eq] at ht
        exact ⟨node.toNat, by omega⟩
      have hk : k < x'.ir := by
        simp only [thereB, Bool.and_eq_true, decide_eq_true_eq] at ht
        have := Hel.out
        have := RowI.len HO5.out.incs
        omega
      obtain ⟨z, hz⟩ : ∃ z, V.incs[k]? = some z := ⟨_, List.getElem?_eq_getElem (by rw [RowI.len HO5.out.incs]; exact hk)⟩
      have Hz : Hid (incAt V (k : Int) = z) := Lib.hid (by simp [incAt, List.getD, hz])
      have Hzk := Lib.hid hz
      have hz0 : 0 ≤ z := Hez.out z (List.mem_of_getElem? hz)
      obtain ⟨g, off, eA, hg, hc⟩ := HO5.out.incs.isI.cells (by omega)
      have c0 := hc k z hz
      have hix := idxI (n := x'.ir) (c := x'.ic) eA hk
      have Hkl : Hid (k < V.incs.length) := Lib.hid (by rw [RowI.len HO5.out.incs]; exact hk)
      clear hc hz eA ht
      by_cases hzm : z < 1099511627776
      case neg =>
        have hzm' : (1099511627776 : Int) ≤ z := by omega
        have Hj : Hid (joinOk V (k : Int) = false) := Lib.hid (by unfold joinOk; rw [Hz.out]; simp [hzm])
        clear hzm
        obtain ⟨v0, v1, v2, v3, v4⟩ := HO5.out.box.cells
        obtain ⟨r0, r1, r2, r3, r4⟩ := HO5.out.res.cells
        have f0 := HO5.out.res.free 0
        have f1 := HO5.out.res.free 1
        have f2 := HO5.out.res.free 2
        have f3 := HO5.out.res.free 3
        have f4 := HO5.out.res.free 4
        go_wp2
        clear v0 v1 v2 v3 v4 r0 r1 r2 r3 r4 f0 f1 f2 f3 f4
        obtain ⟨s0, s1, s2, s3, s4⟩ := (setV_box HO5.out.res x').cells
        exact bodyPost_ret (v := .tuple #[vV x', .int .i64 0]) (by simp [results, Try.results16, go_sem, s0, s1, s2, s3, s4]) rfl ⟨x', by unfold joinN; rw [Hj.out]; rfl, by rw [Hb.out]; exact Hq.out _ _ HO5.out Hj.out, by rw [Hb.out]; exact (setV_mod _ _ _).below HB5.out (Nat.le_of_lt HO5.out.box.lt) (fun i e => by rw [show i = b + 1 from e]; omega)⟩
      case pos =>
        have hzm' : decide ((1099511627776 : Int) ≤ z) = false := by simp; omega
        obtain ⟨v0, v1, v2', v3, v4⟩ := HO5.out.box.cells
        have v2 : ∀ y : In (Abv w5), y.u.cell? ⟨b, 2, none⟩ = some (.slice x'.mA x'.mn x'.mc) := fun y => (HO5.out.box.below y.is).cells.2.2.1
        obtain ⟨F, HF⟩ : ∃ F, Hid (V.mem.findIdx (pOf (k : Int)) = F) := ⟨_, Lib.hid rfl⟩
        go_wp2
        clear v0 v1 v2' v3 v4 c0 hix
        refine wp_region_mix (by kernel_rfl) (Cls (Abv w5)) [(0, 0), (1, 0), (2, 0), (3, 1), (4, 1), (5, 0)] (by kernel_rfl) (cls (Below.refl _ _).drew) ?_
        repeat (refine mix0 rfl (fun K hK => ?_); go_simp; refine hK _ ?_; clear hK K)
        refine mix1 rfl (fun K hK => ?_)
        go_simp
        refine (of_any (k : Int) _).mono ?_
        rintro e w6 ⟨q, rfl, hb6, hcl⟩
        have Hb6 : Hid (Below w5.heap.size w5 w6) := Lib.hid ((Below.refl _ _).drew.trans hb6)
        have Hcl := Lib.hid hcl
        clear hb6 hcl
        refine ⟨_, rfl, hK _ _ (cls Hb6.out) ?_⟩
        clear hK K
        refine mix1 rfl (fun K hK => ?_)
        go_simp
        refine (find_of _ _ _ _ V.mem (HO5.out.below Hb6.out).mem.isL _ _ Hcl.out).mono ?_
        rw [HF.out]
        rintro e w6b ⟨rfl, hb6b⟩
        have Hb6b : Hid (Below w5.heap.size w5 w6b) := Lib.hid (bnext Hb6.out hb6b)
        clear hb6b
        refine ⟨_, rfl, hK _ _ (cls Hb6b.out) ?_⟩
        clear hK K
        repeat (refine mix0 rfl (fun K hK => ?_); go_simp; refine hK _ ?_; clear hK K)
        refine mixEnd ?_
        clear v2
        have HO6 := Lib.hid (HO5.out.below Hb6b.out)
        have HB6 : Hid (Below b w w6b) := Lib.hid (HB5.out.trans (Hb6b.out.mono HBs5.out))
        have HBs6 : Hid (b ≤ w6b.heap.size) := Lib.hid (Nat.le_of_lt HO6.out.box.lt)
        have hFl : F ≤ x'.mn := by rw [← HF.out, ← RowM.len HO6.out.mem]; exact List.findIdx_le_length
        have hmn : x'.mn ≤ 800 := by rw [← RowM.len HO6.out.mem]; exact Hs.out.mem
        obtain ⟨V1, HV1⟩ : ∃ V1, Hid (diedV V (k : Int) = V1) := ⟨_, Lib.hid rfl⟩
        have u2 := HO6.out.box.cells.2.2.1
        rcases Nat.lt_or_ge F x'.mn with hF | hF
        case' inl =>
          obtain ⟨m, hm⟩ : ∃ m, V.mem[F]? = some m := ⟨_, List.getElem?_eq_getElem (by rw [RowM.len HO6.out.mem]; exact hF)⟩
          have Hd : Hid (dieV V F m = V1) := Lib.hid (by rw [← HV1.out]; unfold diedV; rw [HF.out, hm])
          have Hm := Lib.hid hm
          clear hm
          go_wp2_with fail
          refine (die_any _ _ _ _ x' V HO6.out HBs6.out F m Hm.out (by have := Hs.out.mem; omega) (by have := Hs.out.dead; omega)).mono ?_
          rw [Hd.out]
          rintro e w7 ⟨rfl, x7, hO7, hB7⟩
          have HO7 := Lib.hid hO7
          have HB7 : Hid (Below b w w7) := Lib.hid (HB6.out.trans hB7)
          clear hO7 hB7 u2 hF hFl hmn
        case' inr =>
          have hF' : ¬ F < x'.mn := by omega
          have Hd : Hid (V = V1) := Lib.hid (by rw [← HV1.out]; unfold diedV; rw [HF.out, List.getElem?_eq_none (by rw [RowM.len HO6.out.mem]; omega)])
          have HO7 : Hid (Ow w6b b b (b + 1) x' V1) := Lib.hid (by rw [← Hd.out]; exact HO6.out)
          have HB7 := HB6
          clear hF hFl hmn
          obtain ⟨x7, rfl⟩ : ∃ x7 : Vx, x7 = x' := ⟨_, rfl⟩
          obtain ⟨w7, rfl⟩ : ∃ w7 : World, w7 = w6b := ⟨_, rfl⟩
        all_goals
          have Hi7 : Hid (V1.incs = V.incs) := Lib.hid (by rw [← HV1.out]; exact (died_len V (k : Int)).2.2.1)
          have Hm7 : Hid (V1.mem.length ≤ 800) := Lib.hid (by rw [← HV1.out]; exact Nat.le_trans (died_len V (k : Int)).1 Hs.out.mem)
          have Hep7 : Hid (V1.epoch = V.epoch) := Lib.hid (by rw [← HV1.out]; exact (died_len V (k : Int)).2.2.2.1)
          have hk7 : k < x7.ir := by
            have h1 := RowI.len HO7.out.incs
            rw [Hi7.out] at h1
            have := Hkl.out
            omega
          obtain ⟨g7, off7, eA7, hg7, hc7⟩ := HO7.out.incs.isI.cells (by omega)
          have c7 := hc7 k z (by rw [Hi7.out]; exact Hzk.out)
          have hix := idxI (n := x7.ir) (c := x7.ic) eA7 hk7
          have HeA7 := Lib.hid eA7
          have fr7 : w7.frozen? ⟨g7, off7 + k, none⟩ = false := by
            have hr := HO7.out.incs
            rw [eA7] at hr
            obtain ⟨_, q1, _, _, _, q5⟩ := Row.cells' hr
            exact q5 k (by omega)
          have v4 := HO7.out.box.cells.2.2.2.2
          have HO8 := Lib.hid (HO7.out.inc HeA7.out (by rw [Hi7.out]; exact Hkl.out) (z + 1))
          have HB8 : Hid (Below b w (w7.setCell ⟨g7, off7 + k, none⟩ (.int .i64 (z + 1)))) := Lib.hid (HB7.out.setCell (by
            show b ≤ g7
            exact (HO7.out.newI g7 (by rw [iS, HeA7.out]; rfl)).1) _)
          clear eA7 hc7
          go_wp2
          obtain ⟨w8, Hw8⟩ : ∃ w8, Hid (w7.setCell ⟨g7, off7 + k, none⟩ (.int .i64 (z + 1)) = w8) := ⟨_, Lib.hid rfl⟩
          have HO9 : Hid (Ow w8 b b (b + 1) x7 { V1 with incs := V1.incs.set k (z + 1) }) := Lib.hid (by rw [← Hw8.out]; exact HO8.out)
          have HB9 : Hid (Below b w w8) := Lib.hid (by rw [← Hw8.out]; exact HB8.out)
          have HBs9 : Hid (b ≤ w8.heap.size) := Lib.hid (Nat.le_of_lt HO9.out.box.lt)
          rw [Hw8.out]
          clear v4 c7 fr7
          try clear u2 hF'
          have v2 : ∀ y : In (Abv w8), y.u.cell? ⟨b, 2, none⟩ = some (.slice x7.mA x7.mn x7.mc) := fun y => (HO9.out.box.below y.is).cells.2.2.1
          refine wp_region_mix (by kernel_rfl) (Cls (Abv w8)) [(0, 0), (1, 0), (2, 0), (3, 1), (4, 1), (5, 0)] (by kernel_rfl) (cls (Below.refl _ _).drew) ?_
          repeat (refine mix0 rfl (fun K hK => ?_); go_simp; refine hK _ ?_; clear hK K)
          refine mix1 rfl (fun K hK => ?_)
          go_simp
          refine (behind_any (k : Int) _).mono ?_
          rintro e w10 ⟨q, rfl, hb10, hcl⟩
          have Hb10 : Hid (Below w8.heap.size w8 w10) := Lib.hid ((Below.refl _ _).drew.trans hb10)
          have Hcl2 := Lib.hid hcl
          clear hb10 hcl
          refine ⟨_, rfl, hK _ _ (cls Hb10.out) ?_⟩
          clear hK K
          refine mix1 rfl (fun K hK => ?_)
          go_simp
          refine (find_behind _ _ _ _ V1.mem (HO9.out.below Hb10.out).mem.isL _ _ Hcl2.out).mono ?_
          obtain ⟨G, HG⟩ : ∃ G, Hid (V1.mem.findIdx (pBehind (k : Int)) = G) := ⟨_, Lib.hid rfl⟩
          rw [HG.out]
          rintro e w11 ⟨rfl, hb11⟩
          have Hb11 : Hid (Below w8.heap.size w8 w11) := Lib.hid (bnext Hb10.out hb11)
          clear hb11
          refine ⟨_, rfl, hK _ _ (cls Hb11.out) ?_⟩
          clear hK K
          repeat (refine mix0 rfl (fun K hK => ?_); go_simp; refine hK _ ?_; clear hK K)
          refine mixEnd ?_
          clear v2
          have HO11 := Lib.hid (HO9.out.below Hb11.out)
          have HB11 : Hid (Below b w w11) := Lib.hid (HB9.out.trans (Hb11.out.mono HBs9.out))
          have HBs11 : Hid (b ≤ w11.heap.size) := Lib.hid (Nat.le_of_lt HO11.out.box.lt)
          have HGl : Hid (G ≤ x7.mn) := Lib.hid (by rw [← HG.out, ← RowM.len HO11.out.mem]; exact List.findIdx_le_length)
          have Hmn7 : Hid (x7.mn ≤ 800) := Lib.hid (by rw [← RowM.len HO11.out.mem]; exact Hm7.out)
          obtain ⟨g9, off9, eA9, hg9, hc9⟩ := HO11.out.incs.isI.cells (by omega)
          have c9 := hc9 k (z + 1) (List.getElem?_set_self (by rw [Hi7.out]; exact Hkl.out))
          have e79 : g9 = g7 ∧ off9 = off7 := by
            have := eA9.symm.trans HeA7.out
            injection this with this
            injection this with h1 h2
            exact ⟨h1, h2⟩
          obtain ⟨rfl, rfl⟩ := e79
          have u9 : ∀ y : In (Abv w11), y.u.cell? ⟨g9, off9 + k, none⟩ = some (.int .i64 (z + 1)) := fun y => (y.is.cell (p := ⟨g9, off9 + k, none⟩) hg9).trans c9
          have v2 : ∀ y : In (Abv w11), y.u.cell? ⟨b, 2, none⟩ = some (.slice x7.mA x7.mn x7.mc) := fun y => (HO11.out.box.below y.is).cells.2.2.1
          have v4 : ∀ y : In (Abv w11), y.u.cell? ⟨b, 4, none⟩ = some (.slice x7.iA x7.ir x7.ic) := fun y => (HO11.out.box.below y.is).cells.2.2.2.2
          clear eA9 hc9 c9
          go_wp2
          refine wp_region_mix (by kernel_rfl) (Cls (Abv w11)) [(0, 0), (1, 0), (2, 0), (3, 0), (4, 0), (5, 0), (6, 0), (7, 0), (8, 0), (9, 0), (10, 0), (11, 1), (12, 1), (13, 0), (14, 2)] (by kernel_rfl) (cls (Below.refl _ _).drew) ?_
          repeat (refine mix0 rfl (fun K hK => ?_); go_simp; refine hK _ ?_; clear hK K)
          refine mix1 rfl (fun K hK => ?_)
          go_simp
          have Hb11a : Hid (Below w11.heap.size w11 (w11.drew.alloc (.cells #[.int .i64 (k : Int), .int .i64 (z + 1), .bool false] 43))) := Lib.hid (((Below.refl _ _).drew).alloc (by simp) _)
          refine hK _ _ (cls Hb11a.out) ?_
          clear hK K
          refine mix1 rfl (fun K hK => ?_)
          go_simp
          refine (put_any _ _ _ _ V1.mem (HO11.out.below Hb11a.out).mem G G (Nat.le_refl _) HGl.out _ _ _ [((k : Int), z + 1, false)] (isL_one w11.drew ((k : Int), z + 1, false)) (by have := Hmn7.out; omega) (by omega)).mono ?_
          rintro e w12 ⟨mA, mc, rfl, r12, hb12, n12⟩
          have Hb12 : Hid (Below w11.heap.size w11 w12) := Lib.hid (bnext Hb11a.out hb12)
          have R12 := Lib.hid r12
          have N12 : Hid (∀ g', blk (.slice mA (G + 1 + (x7.mn - G)) mc) = some g' → blk (mS x7) = some g' ∨ w11.heap.size ≤ g') := Lib.hid (fun g' hg' => by
            rcases n12 g' hg' with h | h
            · exact .inl h
            · have := Hb11a.out.size; exact .inr (by omega))
          clear hb12 r12 n12
          refine ⟨_, rfl, hK _ _ (cls Hb12.out) ?_⟩
          clear hK K
          repeat (refine mix0 rfl (fun K hK => ?_); go_simp; refine hK _ ?_; clear hK K)
          have HO12 := Lib.hid (HO11.out.memTo HBs11.out Hb12.out R12.out N12.out)
          have s2 := (HO11.out.box.below Hb12.out).cells.2.2.1
          have f2 := (HO11.out.box.below Hb12.out).free 2
          refine mix2 rfl (fun K hK => ?_); go_simp; refine hK _ _ ?_; clear hK K
          refine mixEnd ?_
          clear u9 v2 v4 s2 f2
          obtain ⟨w13, Hw13⟩ : ∃ w13, Hid (w12.setCell ⟨b, 2, none⟩ (.slice mA (G + 1 + (x7.mn - G)) mc) = w13) := ⟨_, Lib.hid rfl⟩
          obtain ⟨x13, Hx13⟩ : ∃ x13, Hid (({ x7 with mA := mA, mn := G + 1 + (x7.mn - G), mc := mc } : Vx) = x13) := ⟨_, Lib.hid rfl⟩
          have HO13 : Hid (Ow w13 b b (b + 1) x13 (comeV V1 (k : Int) (z + 1))) := Lib.hid (by
            rw [← Hw13.out, ← Hx13.out]
            have h := HO12.out
            unfold comeV ins
            rw [HG.out]
            exact h)
          have HB13 : Hid (Below b w w13) := Lib.hid (by rw [← Hw13.out]; exact (HB11.out.trans (Hb12.out.mono HBs11.out)).setCell HO11.out.lt _)
          rw [Hw13.out]
          go_wp2_with fail
          refine (turn_any _ _ _ _ x13 (comeV V1 (k : Int) (z + 1)) HO13.out (by show 0 ≤ V1.epoch; rw [Hep7.out]; exact He0.out) (by show V1.epoch < _; rw [Hep7.out]; exact He1.out)).mono ?_
          rintro e w14 ⟨rfl, x14, hO14, hB14⟩
          have HO14 : Hid (Ow w14 b b (b + 1) x14 (turnV (comeV V1 (k : Int) (z + 1)))) := Lib.hid hO14
          have HB14 : Hid (Below b w w14) := Lib.hid (HB13.out.trans hB14)
          clear hO14 hB14
          have Hj : Hid (joinOk V (k : Int) = true) := Lib.hid (by unfold joinOk; rw [Ht.out, Hth.out, Hz.out]; simp [hzm])
          have Hjv : Hid (joinV V (k : Int) = turnV (comeV V1 (k : Int) (z + 1))) := Lib.hid (by unfold joinV; rw [Hj.out, HV1.out, Hz.out]; rfl)
          have hk14 : k < x14.ir := by
            have h1 := RowI.len HO14.out.incs
            have h2 : ((turnV (comeV V1 (k : Int) (z + 1))).incs).length = V1.incs.length := by simp [turnV, comeV]
            rw [h2, Hi7.out] at h1
            have := Hkl.out
            omega
          obtain ⟨g15, off15, eA15, hg15, hc15⟩ := HO14.out.incs.isI.cells (by omega)
          have c15 := hc15 k (z + 1) (by
            show (V1.incs.set (k : Int).toNat (z + 1))[k]? = _
            rw [Int.toNat_natCast]
            exact List.getElem?_set_self (by rw [Hi7.out]; exact Hkl.out))
          have hix15 := idxI (n := x14.ir) (c := x14.ic) eA15 hk14
          have n15 : g15 ≠ b + 1 := (HO14.out.newI g15 (by rw [iS, eA15]; rfl)).2.2
          have u15 : ∀ y : In (Sav (b + 1) w14), y.u.cell? ⟨g15, off15 + k, none⟩ = some (.int .i64 (z + 1)) := fun y => (y.is.cell (p := ⟨g15, off15 + k, none⟩) hg15 n15).trans c15
          have q0 : ∀ y : In (Sav (b + 1) w14), y.u.cell? ⟨b, 0, none⟩ = some (.int .i64 x14.nodes) := fun y => (HO14.out.box.kept y.is HO14.out.br).cells.1
          have q1 : ∀ y : In (Sav (b + 1) w14), y.u.cell? ⟨b, 1, none⟩ = some (.int .i64 x14.epoch) := fun y => (HO14.out.box.kept y.is HO14.out.br).cells.2.1
          have q2 : ∀ y : In (Sav (b + 1) w14), y.u.cell? ⟨b, 2, none⟩ = some (.slice x14.mA x14.mn x14.mc) := fun y => (HO14.out.box.kept y.is HO14.out.br).cells.2.2.1
          have q3 : ∀ y : In (Sav (b + 1) w14), y.u.cell? ⟨b, 3, none⟩ = some (.slice x14.dA x14.dn x14.dc) := fun y => (HO14.out.box.kept y.is HO14.out.br).cells.2.2.2.1
          have q4 : ∀ y : In (Sav (b + 1) w14), y.u.cell? ⟨b, 4, none⟩ = some (.slice x14.iA x14.ir x14.ic) := fun y => (HO14.out.box.kept y.is HO14.out.br).cells.2.2.2.2
          have M15 := Lib.hid ((setV_mod w14 (b + 1) x14).drew)
          clear eA15 hc15 c15 hzm n15
          go_wp2
          refine wp_region_mix (by kernel_rfl) (Cls (Sav (b + 1) w14)) [(0, 0), (1, 0), (2, 0), (3, 0), (4, 0), (5, 0), (6, 1), (7, 0)] (by kernel_rfl) (cls (Mod.refl _ _).drew) ?_
          repeat (refine mix0 rfl (fun K hK => ?_); go_simp; refine hK _ ?_; clear hK K)
          obtain ⟨r0, r1, r2, r3, r4⟩ := HO14.out.res.cells
          have f0 := HO14.out.res.free 0
          have f1 := HO14.out.res.free 1
          have f2 := HO14.out.res.free 2
          have f3 := HO14.out.res.free 3
          have f4 := HO14.out.res.free 4
          refine mix1 rfl (fun K hK => ?_); go_simp; refine hK _ _ (cls M15.out) ?_; clear hK K
          repeat (refine mix0 rfl (fun K hK => ?_); go_simp; refine hK _ ?_; clear hK K)
          refine mixEnd ?_
          clear u15 q0 q1 q2 q3 q4 r0 r1 r2 r3 r4 f0 f1 f2 f3 f4
          go_wp2
          obtain ⟨s0, s1, s2, s3, s4⟩ := (setV_box HO14.out.res x14).cells
          exact bodyPost_ret (v := .tuple #[vV x14, .int .i64 (z + 1)]) (by simp [results, Try.results16, go_sem, s0, s1, s2, s3, s4]) rfl ⟨x14, by unfold joinN; rw [Hj.out, Hz.out]; rfl, by rw [Hb.out, Hjv.out]; exact HO14.out.tell.kept ((Mod.refl (fun _ => False) _).drew) (fun g h => h.elim), by rw [Hb.out]; exact ((setV_mod _ _ _).below HB14.out (Nat.le_of_lt HO14.out.box.lt) (fun i e => by rw [show i = b + 1 from e]; omega)).drew⟩
end Go.Proofs.Ytnbhjehaecifcaa
