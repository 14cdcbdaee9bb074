/- ViewMeets: two views of one number of nodes that both are enough have a node in common. No conditions. -/
import Derived.Test.YthdkoigiabmpaaaRows
import Derived.Test.YthdkoigiabmpaaaAwake06
import Derived.Test.YthdkoigiabmpaaaArr
import Derived.Test.YthdkoigiabmpaaaLk06
namespace Go.Proofs.Ythdkoigiabmpaaa.viewMeets
open Go.RowKit Go.ChangeShapes Go.WideShapes Go.ChangeAt
open Go.ChangeMaps (open_string shut_string)

set_option maxRecDepth 100000 in
set_option maxHeartbeats 8000000 in
theorem walk (nodes a b : Int) (w : World) (_ : (Lit.int .i64 nodes).wf = true) (_ : (Lit.int .i64 a).wf = true) (_ : (Lit.int .i64 b).wf = true) :
    Calls Try.prog 7 #[.int .i64 nodes, .int .i64 a, .int .i64 b] w fun e w' => e = .returned (.bool true) ∧ Below w.heap.size w w' := by
  obtain ⟨n0, Hn0, hn0⟩ := and_small nodes 7 (.inr rfl)
  have hbn := Hn0.out
  rw [show ((7 : Nat) : Int) = 7 from rfl] at hbn
  obtain ⟨n, Hn⟩ : ∃ n, Hid (1 + n0 = n) := ⟨_, Lib.hid rfl⟩
  have hn8 : n ≤ 8 ∧ 1 ≤ n := by have := Hn.out; omega
  have Hnc : Hid ((1 : Int) + (n0 : Int) = (n : Int)) := Lib.hid (by have := Hn.out; omega)
  have Hnv : Hid ((newV (n : Int)).nodes = (n : Int) ∧ (newV (n : Int)).mem.length = 0 ∧ (newV (n : Int)).dead.length = 0 ∧ (newV (n : Int)).incs.length ≤ 8) := Lib.hid (by
    have := clamp_pos (n : Int)
    refine ⟨?_, rfl, rfl, ?_⟩
    · show ((clampN (n : Int) : Nat) : Int) = _
      rw [clamp_small hn8.2 hn8.1]
    · simp [newV]; omega)
  go_enter Try.func7, Try.ntmps7
  go_wp2_with fail
  refine (awake_any _).mono ?_
  rintro e w2 ⟨rfl, hb2⟩
  have HB2 : Hid (Below w.heap.size w w2) := Lib.hid hb2
  clear hb2
  go_wp2_with fail
  rw [Hnc.out]
  clear hbn
  refine (New_any (n : Int) w2).mono ?_
  rintro e w3 ⟨x0, rfl, hT0, hb3⟩
  have HT0 := Lib.hid hT0
  have HB3 : Hid (Below w.heap.size w w3) := Lib.hid (bnext HB2.out hb3)
  clear hT0 hb3
  go_wp2_with fail
  obtain ⟨w4, H_w4⟩ : ∃ w4, Hid (w3.alloc (.cells (vC x0) 25) = w4) := ⟨_, Lib.hid rfl⟩
  obtain ⟨gv, H_gv⟩ : ∃ gv, Hid (w3.heap.size = gv) := ⟨_, Lib.hid rfl⟩
  have HX_gv : Hid (BoxV w4 gv x0) := Lib.hid (by rw [← H_w4.out, ← H_gv.out]; exact BoxV.new w3 x0)
  have HL_w4 : Hid (Below w3.heap.size w3 w4) := Lib.hid (by rw [← H_w4.out]; exact (Below.refl _ _).alloc (Nat.le_refl _) _)
  rw [show w3.alloc (.cells #[.int .i64 x0.nodes, .int .i64 x0.epoch, .slice x0.mA x0.mn x0.mc, .slice x0.dA x0.dn x0.dc, .slice x0.iA x0.ir x0.ic] 25) = w4 from H_w4.out]
  try rw [H_gv.out]
  have HB4 : Hid (Below w.heap.size w w4) := Lib.hid (bnext HB3.out HL_w4.out)
  refine (New_any (n : Int) w4).mono ?_
  rintro e w5 ⟨x1, rfl, hT1, hb5⟩
  have HT1 := Lib.hid hT1
  have HL5 := Lib.hid hb5
  have HB5 : Hid (Below w.heap.size w w5) := Lib.hid (bnext HB4.out hb5)
  clear hT1 hb5
  go_wp2_with fail
  obtain ⟨w6, H_w6⟩ : ∃ w6, Hid (w5.alloc (.cells (vC x1) 25) = w6) := ⟨_, Lib.hid rfl⟩
  obtain ⟨gw, H_gw⟩ : ∃ gw, Hid (w5.heap.size = gw) := ⟨_, Lib.hid rfl⟩
  have HX_gw : Hid (BoxV w6 gw x1) := Lib.hid (by rw [← H_w6.out, ← H_gw.out]; exact BoxV.new w5 x1)
  have HL_w6 : Hid (Below w5.heap.size w5 w6) := Lib.hid (by rw [← H_w6.out]; exact (Below.refl _ _).alloc (Nat.le_refl _) _)
  rw [show w5.alloc (.cells #[.int .i64 x1.nodes, .int .i64 x1.epoch, .slice x1.mA x1.mn x1.mc, .slice x1.dA x1.dn x1.dc, .slice x1.iA x1.ir x1.ic] 25) = w6 from H_w6.out]
  try rw [H_gw.out]
  have HB6 : Hid (Below w.heap.size w w6) := Lib.hid (bnext HB5.out HL_w6.out)
  have Hgg : Hid (gv < gw ∧ w.heap.size ≤ gv ∧ gw < w6.heap.size) := Lib.hid (by
    have h1 := HX_gv.out.lt
    have h2 := HL5.out.size
    have h3 := HB3.out.size
    have h4 := HX_gw.out.lt
    have h5 := H_gw.out
    have h6 := H_gv.out
    omega)
  have HVv : Hid (Var w6 (fun h => h = gv ∨ h = gw) gv x0 (newV (n : Int))) := Lib.hid (by
    have h := Var.new (S := fun h => h = gv ∨ h = gw) HT0.out (fun h e => .inr (by have := Hgg.out; have := H_gv.out; omega))
    rw [H_w4.out, H_gv.out] at h
    exact h.below (bnext HL5.out HL_w6.out))
  have HVw : Hid (Var w6 (fun h => h = gv ∨ h = gw) gw x1 (newV (n : Int))) := Lib.hid (by
    have h := Var.new (S := fun h => h = gv ∨ h = gw) HT1.out (fun h e => by have := Hgg.out; have := H_gw.out; have := HX_gv.out.lt; omega)
    rw [H_w6.out, H_gw.out] at h
    exact h)
  go_loopw [11, 12, 13, 14] (fun cm i _ _ wr => ∃ (k : Nat) (c : Bool) (xv xw : Vx) (V W : Vw) (ca cb : Nat), i = .int .i64 (k : Int) ∧ k ≤ n ∧ cm = .bool c ∧ Hid (Below w.heap.size w wr) ∧ Hid (gw < wr.heap.size) ∧ Hid (Var wr (fun h => h = gv ∨ h = gw) gv xv V) ∧ Hid (Var wr (fun h => h = gv ∨ h = gw) gw xw W) ∧
      Hid (V.nodes = (n : Int) ∧ V.mem.length ≤ ca ∧ V.dead.length ≤ k ∧ V.incs.length ≤ 8) ∧ Hid (W.nodes = (n : Int) ∧ W.mem.length ≤ cb ∧ W.dead.length ≤ k ∧ W.incs.length ≤ 8) ∧ Hid (ca ≤ k ∧ cb ≤ k ∧ (c = false → ca + cb ≤ k))) (fun _ i _ _ _ => n - (intOf i).toNat)
  case atStart => exact ⟨0, false, x0, x1, _, _, 0, 0, rfl, Nat.zero_le _, rfl, HB6, Lib.hid Hgg.out.2.2, HVv, HVw, Lib.hid ⟨Hnv.out.1, by rw [Hnv.out.2.1]; exact Nat.le_refl _, by rw [Hnv.out.2.2.1]; exact Nat.le_refl _, Hnv.out.2.2.2⟩, Lib.hid ⟨Hnv.out.1, by rw [Hnv.out.2.1]; exact Nat.le_refl _, by rw [Hnv.out.2.2.1]; exact Nat.le_refl _, Hnv.out.2.2.2⟩, Lib.hid ⟨Nat.le_refl _, Nat.le_refl _, fun _ => Nat.le_refl _⟩⟩
  case round =>
    obtain ⟨k, c, xv, xw, V, W, ca, cb, rfl, hk, rfl, HB, Hgw, Hv, Hw, HLv, HLw, HC⟩ := hrel
    by_cases hlt : k < n
    · have Hlt := Lib.hid hlt
      cases hx : (bits BinOp.and IntKind.i64 (a / 2 ^ k) 1 == 1) with
      | true =>
        cases hy : (bits BinOp.and IntKind.i64 (b / 2 ^ k) 1 == 1) with
        | true =>
          obtain ⟨v0, v1, v2, v3, v4⟩ := Hv.out.box.cells
          go_wp2_with fail
          refine (Join_any wr xv V Hv.out.isV (k : Int) (sm_small (by have := HLv.out; have := HC.out; omega) (by have := HLv.out; omega) (by have := HLv.out; omega))).mono ?_
          rintro e w7 ⟨x2, rfl, hT7, hb7⟩
          have HV7 : Hid (Var (setV w7 gv x2) (fun h => h = gv ∨ h = gw) gv x2 (joinV V (k : Int))) := Lib.hid (Hv.out.store hb7 hT7 (fun h e => by have := Hgg.out; have := Hgw.out; omega) (.inl rfl))
          have HW7 : Hid (Var (setV w7 gv x2) (fun h => h = gv ∨ h = gw) gw xw W) := Lib.hid ((Hw.out.below hb7).kept (setV_mod w7 gv x2) (.inl rfl) (by have := Hgg.out; omega))
          have HB7 : Hid (Below w.heap.size w (setV w7 gv x2)) := Lib.hid (bmod (bnext HB.out hb7) (setV_mod w7 gv x2) Hgg.out.2.1)
          have HG7 : Hid (gw < (setV w7 gv x2).heap.size) := Lib.hid HW7.out.box.lt
          have HLv2 : Hid ((joinV V (k : Int)).nodes = (n : Int) ∧ (joinV V (k : Int)).mem.length ≤ ca + 1 ∧ (joinV V (k : Int)).dead.length ≤ k + 1 ∧ (joinV V (k : Int)).incs.length ≤ 8) := Lib.hid (by
            have h1 := join_grow V (k : Int)
            have h2 := HLv.out
            exact ⟨by rw [h1.1]; exact h2.1, by omega, by omega, by omega⟩)
          clear v0 v1 v2 v3 v4
          obtain ⟨v0, v1, v2, v3, v4⟩ := (Hv.out.below hb7).box.cells
          have f0 := (Hv.out.below hb7).box.free 0
          have f1 := (Hv.out.below hb7).box.free 1
          have f2 := (Hv.out.below hb7).box.free 2
          have f3 := (Hv.out.below hb7).box.free 3
          have f4 := (Hv.out.below hb7).box.free 4
          clear hb7 hT7
          obtain ⟨y0, y1, y2, y3, y4⟩ := HW7.out.box.cells
          go_wp2_with fail
          obtain ⟨w8, Hw8⟩ : ∃ w8, Hid (setV w7 gv x2 = w8) := ⟨_, Lib.hid rfl⟩
          rw [show ((((w7.setCell ⟨gv, 0, none⟩ (.int .i64 x2.nodes)).setCell ⟨gv, 1, none⟩ (.int .i64 x2.epoch)).setCell ⟨gv, 2, none⟩ (.slice x2.mA x2.mn x2.mc)).setCell ⟨gv, 3, none⟩ (.slice x2.dA x2.dn x2.dc)).setCell ⟨gv, 4, none⟩ (.slice x2.iA x2.ir x2.ic) = w8 from Hw8.out]
          rw [Hw8.out] at HV7 HW7 HB7 HG7
          clear v0 v1 v2 v3 v4 f0 f1 f2 f3 f4 y0 y1 y2 y3 y4
          refine (Join_any w8 xw W HW7.out.isV (k : Int) (sm_small (by have := HLw.out; have := HC.out; omega) (by have := HLw.out; omega) (by have := HLw.out; omega))).mono ?_
          rintro e w9 ⟨x3, rfl, hT9, hb9⟩
          have HW8 : Hid (Var (setV w9 gw x3) (fun h => h = gv ∨ h = gw) gw x3 (joinV W (k : Int))) := Lib.hid (HW7.out.store hb9 hT9 (fun h e => by have := Hgg.out; have := HG7.out; omega) (.inr rfl))
          have HV8 : Hid (Var (setV w9 gw x3) (fun h => h = gv ∨ h = gw) gv x2 (joinV V (k : Int))) := Lib.hid ((HV7.out.below hb9).kept (setV_mod w9 gw x3) (.inr rfl) (by have := Hgg.out; omega))
          have HB8 : Hid (Below w.heap.size w (setV w9 gw x3)) := Lib.hid (bmod (bnext HB7.out hb9) (setV_mod w9 gw x3) (by have := Hgg.out; omega))
          have HG8 : Hid (gw < (setV w9 gw x3).heap.size) := Lib.hid HW8.out.box.lt
          have HLw2 : Hid ((joinV W (k : Int)).nodes = (n : Int) ∧ (joinV W (k : Int)).mem.length ≤ cb + 1 ∧ (joinV W (k : Int)).dead.length ≤ k + 1 ∧ (joinV W (k : Int)).incs.length ≤ 8) := Lib.hid (by
            have h1 := join_grow W (k : Int)
            have h2 := HLw.out
            exact ⟨by rw [h1.1]; exact h2.1, by omega, by omega, by omega⟩)
          obtain ⟨v0, v1, v2, v3, v4⟩ := (HW7.out.below hb9).box.cells
          have f0 := (HW7.out.below hb9).box.free 0
          have f1 := (HW7.out.below hb9).box.free 1
          have f2 := (HW7.out.below hb9).box.free 2
          have f3 := (HW7.out.below hb9).box.free 3
          have f4 := (HW7.out.below hb9).box.free 4
          clear hb9 hT9
          rcases c with _ | _
          all_goals
            go_wp2
            clear v0 v1 v2 v3 v4 f0 f1 f2 f3 f4
            go_roundw
            case rel => exact ⟨k + 1, _, x2, x3, _, _, ca + 1, cb + 1, by go_num, by omega, rfl, HB8, HG8, HV8, HW8, HLv2, HLw2, Lib.hid (by have := HC.out; refine ⟨by omega, by omega, fun h => ?_⟩; first | (cases h; done) | (have := this.2.2 (by first | rfl | trivial); omega))⟩
            case measure => simp [intOf]; omega
        | false =>
          have HLw1 : Hid (W.nodes = (n : Int) ∧ W.mem.length ≤ cb ∧ W.dead.length ≤ k + 1 ∧ W.incs.length ≤ 8) := Lib.hid (by have := HLw.out; exact ⟨this.1, this.2.1, by omega, this.2.2.2⟩)
          obtain ⟨v0, v1, v2, v3, v4⟩ := Hv.out.box.cells
          go_wp2_with fail
          refine (Join_any wr xv V Hv.out.isV (k : Int) (sm_small (by have := HLv.out; have := HC.out; omega) (by have := HLv.out; omega) (by have := HLv.out; omega))).mono ?_
          rintro e w7 ⟨x2, rfl, hT7, hb7⟩
          have HV7 : Hid (Var (setV w7 gv x2) (fun h => h = gv ∨ h = gw) gv x2 (joinV V (k : Int))) := Lib.hid (Hv.out.store hb7 hT7 (fun h e => by have := Hgg.out; have := Hgw.out; omega) (.inl rfl))
          have HW7 : Hid (Var (setV w7 gv x2) (fun h => h = gv ∨ h = gw) gw xw W) := Lib.hid ((Hw.out.below hb7).kept (setV_mod w7 gv x2) (.inl rfl) (by have := Hgg.out; omega))
          have HB7 : Hid (Below w.heap.size w (setV w7 gv x2)) := Lib.hid (bmod (bnext HB.out hb7) (setV_mod w7 gv x2) Hgg.out.2.1)
          have HG7 : Hid (gw < (setV w7 gv x2).heap.size) := Lib.hid HW7.out.box.lt
          have HLv2 : Hid ((joinV V (k : Int)).nodes = (n : Int) ∧ (joinV V (k : Int)).mem.length ≤ ca + 1 ∧ (joinV V (k : Int)).dead.length ≤ k + 1 ∧ (joinV V (k : Int)).incs.length ≤ 8) := Lib.hid (by
            have h1 := join_grow V (k : Int)
            have h2 := HLv.out
            exact ⟨by rw [h1.1]; exact h2.1, by omega, by omega, by omega⟩)
          clear v0 v1 v2 v3 v4
          obtain ⟨v0, v1, v2, v3, v4⟩ := (Hv.out.below hb7).box.cells
          have f0 := (Hv.out.below hb7).box.free 0
          have f1 := (Hv.out.below hb7).box.free 1
          have f2 := (Hv.out.below hb7).box.free 2
          have f3 := (Hv.out.below hb7).box.free 3
          have f4 := (Hv.out.below hb7).box.free 4
          clear hb7 hT7
          rcases c with _ | _
          all_goals
            go_wp2
            clear v0 v1 v2 v3 v4 f0 f1 f2 f3 f4
            go_roundw
            case rel => exact ⟨k + 1, _, x2, xw, _, _, ca + 1, cb, by go_num, by omega, rfl, HB7, HG7, HV7, HW7, HLv2, HLw1, Lib.hid (by have := HC.out; refine ⟨by omega, by omega, fun h => ?_⟩; first | (cases h; done) | (have := this.2.2 (by first | rfl | trivial); omega))⟩
            case measure => simp [intOf]; omega
      | false =>
        cases hy : (bits BinOp.and IntKind.i64 (b / 2 ^ k) 1 == 1) with
        | true =>
          have HB7 := HB
          have HG7 := Hgw
          have HV7 := Hv
          have HW7 := Hw
          obtain ⟨w8, rfl⟩ : ∃ w8 : World, w8 = wr := ⟨_, rfl⟩
          have HLv1 : Hid (V.nodes = (n : Int) ∧ V.mem.length ≤ ca ∧ V.dead.length ≤ k + 1 ∧ V.incs.length ≤ 8) := Lib.hid (by have := HLv.out; exact ⟨this.1, this.2.1, by omega, this.2.2.2⟩)
          obtain ⟨y0, y1, y2, y3, y4⟩ := HW7.out.box.cells
          go_wp2_with fail
          clear y0 y1 y2 y3 y4
          refine (Join_any w8 xw W HW7.out.isV (k : Int) (sm_small (by have := HLw.out; have := HC.out; omega) (by have := HLw.out; omega) (by have := HLw.out; omega))).mono ?_
          rintro e w9 ⟨x3, rfl, hT9, hb9⟩
          have HW8 : Hid (Var (setV w9 gw x3) (fun h => h = gv ∨ h = gw) gw x3 (joinV W (k : Int))) := Lib.hid (HW7.out.store hb9 hT9 (fun h e => by have := Hgg.out; have := HG7.out; omega) (.inr rfl))
          have HV8 : Hid (Var (setV w9 gw x3) (fun h => h = gv ∨ h = gw) gv xv V) := Lib.hid ((HV7.out.below hb9).kept (setV_mod w9 gw x3) (.inr rfl) (by have := Hgg.out; omega))
          have HB8 : Hid (Below w.heap.size w (setV w9 gw x3)) := Lib.hid (bmod (bnext HB7.out hb9) (setV_mod w9 gw x3) (by have := Hgg.out; omega))
          have HG8 : Hid (gw < (setV w9 gw x3).heap.size) := Lib.hid HW8.out.box.lt
          have HLw2 : Hid ((joinV W (k : Int)).nodes = (n : Int) ∧ (joinV W (k : Int)).mem.length ≤ cb + 1 ∧ (joinV W (k : Int)).dead.length ≤ k + 1 ∧ (joinV W (k : Int)).incs.length ≤ 8) := Lib.hid (by
            have h1 := join_grow W (k : Int)
            have h2 := HLw.out
            exact ⟨by rw [h1.1]; exact h2.1, by omega, by omega, by omega⟩)
          obtain ⟨v0, v1, v2, v3, v4⟩ := (HW7.out.below hb9).box.cells
          have f0 := (HW7.out.below hb9).box.free 0
          have f1 := (HW7.out.below hb9).box.free 1
          have f2 := (HW7.out.below hb9).box.free 2
          have f3 := (HW7.out.below hb9).box.free 3
          have f4 := (HW7.out.below hb9).box.free 4
          clear hb9 hT9
          rcases c with _ | _
          all_goals
            go_wp2
            clear v0 v1 v2 v3 v4 f0 f1 f2 f3 f4
            go_roundw
            case rel => exact ⟨k + 1, _, xv, x3, _, _, ca, cb + 1, by go_num, by omega, rfl, HB8, HG8, HV8, HW8, HLv1, HLw2, Lib.hid (by have := HC.out; refine ⟨by omega, by omega, fun h => ?_⟩; first | (cases h; done) | (have := this.2.2 (by first | rfl | trivial); omega))⟩
            case measure => simp [intOf]; omega
        | false =>
          have HLv1 : Hid (V.nodes = (n : Int) ∧ V.mem.length ≤ ca ∧ V.dead.length ≤ k + 1 ∧ V.incs.length ≤ 8) := Lib.hid (by have := HLv.out; exact ⟨this.1, this.2.1, by omega, this.2.2.2⟩)
          have HLw1 : Hid (W.nodes = (n : Int) ∧ W.mem.length ≤ cb ∧ W.dead.length ≤ k + 1 ∧ W.incs.length ≤ 8) := Lib.hid (by have := HLw.out; exact ⟨this.1, this.2.1, by omega, this.2.2.2⟩)
          rcases c with _ | _
          all_goals
            go_wp2
            go_roundw
            case rel => exact ⟨k + 1, _, xv, xw, _, _, ca, cb, by go_num, by omega, rfl, HB, Hgw, Hv, Hw, HLv1, HLw1, Lib.hid (by have := HC.out; refine ⟨by omega, by omega, fun h => ?_⟩; first | (cases h; done) | (have := this.2.2 (by first | rfl | trivial); omega))⟩
            case measure => simp [intOf]; omega
    · obtain rfl : n = k := by omega
      obtain ⟨v0, v1, v2, v3, v4⟩ := Hv.out.box.cells
      go_wp2_with fail
      refine (Enough_any wr xv V Hv.out.isV (by have := HLv.out; have := HC.out; omega)).mono ?_
      rintro e w7 ⟨rfl, hb7⟩
      have HB7 : Hid (Below w.heap.size w w7) := Lib.hid (bnext HB.out hb7)
      have HW7 := Lib.hid (Hw.out.below hb7)
      clear hb7 v0 v1 v2 v3 v4
      cases hev : enoughB V with
      | false =>
        go_wp2
        go_ret
        exact ⟨rfl, HB7.out⟩
      | true =>
        obtain ⟨y0, y1, y2, y3, y4⟩ := HW7.out.box.cells
        have Hev := Lib.hid hev
        go_wp2_with fail
        refine (Enough_any w7 xw W HW7.out.isV (by have := HLw.out; have := HC.out; omega)).mono ?_
        rintro e w8 ⟨rfl, hb8⟩
        have HB8 : Hid (Below w.heap.size w w8) := Lib.hid (bnext HB7.out hb8)
        clear hb8 y0 y1 y2 y3 y4
        cases hew : enoughB W with
        | false =>
          go_wp2
          go_ret
          exact ⟨rfl, HB8.out⟩
        | true =>
          have hc : c = true := by
            cases c with
            | true => rfl
            | false =>
              have h1 := HC.out.2.2 rfl
              have h2 := HLv.out
              have h3 := HLw.out
              have h4 := Hev.out
              unfold enoughB at h4 hew
              simp only [decide_eq_true_eq] at h4 hew
              rw [h2.1] at h4
              rw [h3.1] at hew
              omega
          subst hc
          go_wp2
          go_ret
          exact ⟨rfl, HB8.out⟩
theorem own : ownKnob Try.prog.godebug = none := by kernel_rfl
theorem laidOut : laidOutB Try.prog = true := by kernel_rfl
set_option maxRecDepth 100000 in
theorem lifted (os : Os) (started : os.Started) (H : Type) (enc : TypeId × Value → H) :
    ReturnsInHanded {} Try.checked os 7 .any (Rows.viewMeetsSpec.pre6 enc Try.prog Try.f7 Rows.viewMeetsRow.domain false) (Rows.viewMeetsSpec.post enc Try.prog Try.f7 false true false false) := by
  refine returnsInHanded_of_change (C := Try.checked) own started (by kernel_rfl) Try.func7
    (ChangeSpec.witness6 (enc := enc) (C := Try.checked) false ⟨#[], #[.int .i64 0, .int .i64 0, .int .i64 0], []⟩ 8 (by kernel_rfl) (by kernel_rfl) (by kernel_rfl) (by kernel_rfl)) ?_
  intro W base args ds gs before hval0 hW hcnd _
  have hval : ∀ (j : Nat) t v, Try.f7.params[j]? = some t → args[j]? = some v → Value.okWide Try.prog W .any base t v := hval0
  have hW' := hW
  obtain ⟨p, q, hA0, hV, rfl, hfz, hnd⟩ := hW
  have hA : DataW.TrodAll enc Try.prog W 0 (fun _ => true) true Try.f7.params.toList args.toList ds p := hA0
  rw [Try.params7] at hA hval
  obtain ⟨v0, vs0, d0, ds0, p0, q0, hargs, rfl, rfl, h0, r0⟩ := trodAll_cons hA
  obtain ⟨v1, vs1, d1, ds1, p1, q1, rfl, rfl, rfl, h1, r1⟩ := trodAll_cons r0
  obtain ⟨v2, vs2, d2, ds2, p2, q2, rfl, rfl, rfl, h2, r2⟩ := trodAll_cons r1
  obtain ⟨rfl, rfl, rfl⟩ := trodAll_nil r2
  obtain rfl : args = #[v0, v1, v2] := by cases args; simp_all
  obtain ⟨a0, rfl, rfl, rfl, w0⟩ := open_int Try.underlying3 (hval 0 3 v0 rfl rfl) h0
  obtain ⟨a1, rfl, rfl, rfl, w1⟩ := open_int Try.underlying3 (hval 1 3 v1 rfl rfl) h1
  obtain ⟨a2, rfl, rfl, rfl, w2⟩ := open_int Try.underlying3 (hval 2 3 v2 rfl rfl) h2
  clear hA0 hval0
  refine (walk a0 a1 a2 W w0 w1 w2).mono fun e W' ⟨he, bel⟩ => ?_
  subst he
  exact ⟨_, rfl, law_post laidOut (by rw [Try.params7]; decide +kernel) rfl Try.underlying4 rfl hW' (fun _ => rfl) bel⟩
theorem over : Rows.viewMeetsRow.holds Try.pinned (OpenSpec.ofChange Rows.viewMeetsSpec) :=
  OpenClaim.holds_of_wide 7 Try.f7 rfl rfl rfl rfl rfl rfl rfl ⟨rfl, rfl, rfl, rfl, rfl⟩ rfl rfl rfl rfl rfl (by kernel_rfl) Try.func7 (by kernel_rfl)
    (of_decide_eq_true (by kernel_rfl)) (by unfold Func.isWrapper; first | (rw [if_pos (by decide +kernel)]; kernel_rfl) | (rw [if_neg (by decide +kernel)]; exact ⟨rfl, rfl⟩))
    (fun os started H enc _ => lifted os started H enc)
theorem proved : Rows.ViewMeetsSaid := over
end Go.Proofs.Ythdkoigiabmpaaa.viewMeets
