/- ViewOpens: of a view that was made and changed: once each member was told ready, and each dead one buried, it is open, if the members are enough; with one that joins it is not. No conditions. -/
import Derived.Test.YthdkoigiabmpaaaRows
import Derived.Test.YthdkoigiabmpaaaAwake06
import Derived.Test.YthdkoigiabmpaaaArr
import Derived.Test.YthdkoigiabmpaaaKeep
import Derived.Test.YthdkoigiabmpaaaOps06
import Derived.Test.YthdkoigiabmpaaaMix2
import Derived.Deep.DeepCutAuto
import Derived.Deep.CutBlock
namespace Go.Proofs.Ythdkoigiabmpaaa.viewOpens
open Go.RowKit Go.ChangeShapes Go.WideShapes Go.ChangeAt
open Go.ChangeMaps (open_string shut_string)

theorem dead_first {V : Vw} (h : Ok V) {d : Mb} (hd : V.dead[0]? = some d) : buryB V d.1 d.2.1 = true ∧ (buryV V d.1 d.2.1).dead.length + 1 = V.dead.length := by
  have hl : V.dead.findIdx (pIs d.1 d.2.1) < V.dead.length := List.findIdx_lt_length.2 ⟨d, List.mem_of_getElem? hd, by simp [pIs]⟩
  have hb : buryB V d.1 d.2.1 = true := by
    unfold buryB
    rw [(ok_iff V).2 h]
    simpa using hl
  refine ⟨hb, ?_⟩
  unfold buryV
  rw [hb]
  simp
  omega
theorem ready_first {V : Vw} (h : Ok V) {i : Nat} {m : Mb} (hm : V.mem[i]? = some m) (hr : m.2.2 = false) : readyB V m.1 m.2.1 = true ∧ readyV V m.1 m.2.1 = { V with mem := V.mem.set i (m.1, m.2.1, true) } := by
  obtain ⟨hi, hg⟩ := List.getElem?_eq_some_iff.1 hm
  have hF : V.mem.findIdx (pIs m.1 m.2.1) = i := by
    have h1 : V.mem.findIdx (pIs m.1 m.2.1) < V.mem.length := List.findIdx_lt_length.2 ⟨m, List.mem_of_getElem? hm, by simp [pIs]⟩
    have h2 := (is_at (List.getElem?_eq_getElem h1)).1
    rcases Nat.lt_trichotomy (V.mem.findIdx (pIs m.1 m.2.1)) i with h3 | h3 | h3
    · have := List.pairwise_iff_getElem.1 h.mp _ _ h1 hi h3
      rw [hg] at this
      omega
    · exact h3
    · have := List.pairwise_iff_getElem.1 h.mp _ _ hi h1 h3
      rw [hg] at this
      omega
  have hb : readyB V m.1 m.2.1 = true := by
    unfold readyB
    rw [(ok_iff V).2 h, hF, hm]
    simp [hr]
  refine ⟨hb, ?_⟩
  unfold readyV
  rw [hb, hF, hm]
  rfl
/-- Those ahead of a place are ready. -/
def rdTo (l : List Mb) (j : Nat) : Prop := ∀ i m, i < j → l[i]? = some m → m.2.2 = true
theorem rdTo_open {V : Vw} {j : Nat} (h : rdTo V.mem j) (hj : V.mem.length ≤ j) (hd : V.dead = []) : openB V = enoughB V := by
  have : V.mem.any pUn = false := by
    rw [List.any_eq_false]
    intro m hm
    obtain ⟨i, hi, rfl⟩ := List.mem_iff_getElem.1 hm
    have := h i _ (by omega) (List.getElem?_eq_getElem hi)
    simp [pUn, this]
  unfold openB
  rw [this, hd]
  simp
theorem rdTo_step {l : List Mb} {j : Nat} {m : Mb} (h : rdTo l j) (hm : l[j]? = some m) (hr : m.2.2 = true) : rdTo l (j + 1) := fun i x hi hx => by
  rcases Nat.lt_or_ge i j with h1 | h1
  · exact h i x h1 hx
  · obtain rfl : i = j := by omega
    rw [hm] at hx
    injection hx with hx
    rw [← hx]
    exact hr
theorem rdTo_set {l : List Mb} {j : Nat} {m : Mb} (h : rdTo l j) (hm : l[j]? = some m) : rdTo (l.set j (m.1, m.2.1, true)) (j + 1) := fun i x hi hx => by
  by_cases e : j = i
  · subst e
    rw [List.getElem?_set_self (List.getElem?_eq_some_iff.1 hm).1] at hx
    injection hx with hx
    rw [← hx]
  · rw [List.getElem?_set_ne e] at hx
    exact h i x (by omega) hx
theorem not_open {V : Vw} {m : Mb} (hm : m ∈ V.mem) (hr : m.2.2 = false) : openB V = false := by
  have : V.mem.any pUn = true := List.any_eq_true.2 ⟨m, hm, by simp [pUn, hr]⟩
  unfold openB
  rw [this]
  simp
theorem join_new {V : Vw} {node : Int} (h : joinOk V node = true) : (node, incAt V node + 1, false) ∈ (joinV V node).mem := by
  unfold joinV
  rw [if_pos h]
  show _ ∈ (List.map unr _)
  exact List.mem_map.2 ⟨(node, incAt V node + 1, false), mem_ins.2 (.inl rfl), rfl⟩
theorem join_shut {V : Vw} (hV : Ok V) (node : Int) : joinN V node = 0 ∨ (joinN V node ≠ 0 ∧ openB (joinV V node) = false) := by
  cases h : joinOk V node with
  | false => exact .inl (by unfold joinN; rw [h]; rfl)
  | true =>
    refine .inr ⟨?_, not_open (join_new h) rfl⟩
    obtain ⟨_, _, _, h3, h4, _⟩ := joinOk_parts h
    have := incAt_mem hV h3 h4
    unfold joinN
    rw [if_pos h]
    omega
set_option maxRecDepth 100000 in
set_option maxHeartbeats 8000000 in
theorem walk (nodes : Int) (A : Option Addr) (len cap : Nat) (vs : Nat → OpV) (w : World) (_ : (Lit.int .i64 nodes).wf = true) (hvs : IsOps w A len vs) (_ : len ≤ cap) :
    Calls Try.prog 9 #[.int .i64 nodes, .slice A len cap] w fun e w' => e = .returned (.bool true) ∧ Below w.heap.size w w' := by
  have Hvs := Lib.hid hvs
  have hlen : len ≤ 9223372036854775807 := by have := hvs.max; unfold maxLen at this; omega
  clear hvs
  obtain ⟨n0, Hn0, hn0⟩ := and_small nodes 7 (.inr rfl)
  have hbn := Hn0.out
  rw [show ((7 : Nat) : Int) = 7 from rfl] at hbn
  obtain ⟨n, Hn⟩ : ∃ n, Hid ((1 : Int) + (n0 : Int) = n) := ⟨_, Lib.hid rfl⟩
  go_enter Try.func9, Try.ntmps9
  go_wp2_with fail
  refine (awake_any _).mono ?_
  rintro e w2 ⟨rfl, hb2⟩
  have HB2 : Hid (Below w.heap.size w w2) := Lib.hid hb2
  clear hb2
  go_wp2_with fail
  rw [Hn.out]
  clear hbn
  refine (New_any n w2).mono ?_
  rintro e w3 ⟨x0, rfl, hT0, hb3⟩
  have HT0 := Lib.hid hT0
  have HB3 : Hid (Below w.heap.size w w3) := Lib.hid (bnext HB2.out hb3)
  clear hT0 hb3
  go_upto_region 3 with (fail)
  obtain ⟨w4, H_w4⟩ : ∃ w4, Hid (w3.alloc (.cells (vC x0) 25) = w4) := ⟨_, Lib.hid rfl⟩
  obtain ⟨gv, H_gv⟩ : ∃ gv, Hid (w3.heap.size = gv) := ⟨_, Lib.hid rfl⟩
  have HX_gv : Hid (BoxV w4 gv x0) := Lib.hid (by rw [← H_w4.out, ← H_gv.out]; exact BoxV.new w3 x0)
  have HL_w4 : Hid (Below w3.heap.size w3 w4) := Lib.hid (by rw [← H_w4.out]; exact (Below.refl _ _).alloc (Nat.le_refl _) _)
  rw [show w3.alloc (.cells #[.int .i64 x0.nodes, .int .i64 x0.epoch, .slice x0.mA x0.mn x0.mc, .slice x0.dA x0.dn x0.dc, .slice x0.iA x0.ir x0.ic] 25) = w4 from H_w4.out]
  try rw [H_gv.out]
  have HB4 : Hid (Below w.heap.size w w4) := Lib.hid (bnext HB3.out HL_w4.out)
  have Hgv : Hid (w.heap.size ≤ gv) := Lib.hid (by have := HB3.out.size; have := H_gv.out; omega)
  have HVv : Hid (Var w4 (fun h => h = gv) gv x0 (newV n)) := Lib.hid (by
    have h := Var.new (S := fun h => h = gv) HT0.out (fun h e => .inr (by have := H_gv.out; omega))
    rw [H_w4.out, H_gv.out] at h
    exact h)
  have HK0 : Hid (Ok (newV n)) := Lib.hid (ok_new n)
  go_upto_block 0 with (fail)
  go_cut [7, 8, 9, 10, 11, 12] (fun _ _ _ _ _ _ wx => ∃ (xv : Vx) (V : Vw), Hid (Below w.heap.size w wx) ∧ Hid (Var wx (fun h => h = gv) gv xv V) ∧ Hid (Ok V))
  case first =>
    go_wp2
    go_loopw [7, 8, 9, 10, 11, 12] (fun i _ _ _ _ _ wr => ∃ (j : Nat) (xv : Vx) (V : Vw), i = .int .i64 (j : Int) ∧ j ≤ len ∧ Hid (Below w.heap.size w wr) ∧ Hid (Var wr (fun h => h = gv) gv xv V) ∧ Hid (Ok V)) (fun i _ _ _ _ _ _ => len - (intOf i).toNat)
    case atStart => exact ⟨0, x0, _, rfl, Nat.zero_le _, HB4, HVv, HK0⟩
    case round =>
      obtain ⟨j, xv, V, rfl, hj, HB, Hv, HK⟩ := hrel
      have Hend : Hid (Var wr (fun h => h = gv) gv xv V ∧ Ok V) := Lib.hid ⟨Hv.out, HK.out⟩
      by_cases hlt : j < len ∧ j < 40
      · obtain ⟨hlt, hlt4⟩ := hlt
        obtain ⟨b, off, eA, hop⟩ := Hvs.out.at HB.out hlt
        subst eA
        obtain ⟨o, Ho⟩ : ∃ o, Hid (vs j = o) := ⟨_, Lib.hid rfl⟩
        rw [Ho.out] at hop
        have o0 := hop.kind
        have o1 := hop.node
        have o2 := hop.by_
        have o3 := hop.inc
        have o4 := hop.own
        clear hop
        go_upto_region 7 with (fail)
        clear o0 o1 o2 o3 o4
        obtain ⟨w5, H_w5⟩ : ∃ w5, Hid (wr.alloc (.cells #[.int .i64 o.kind, .int .i64 o.node, .int .i64 o.by_, .int .i64 o.inc, .bool o.own] 40) = w5) := ⟨_, Lib.hid rfl⟩
        obtain ⟨go, H_go⟩ : ∃ go, Hid (wr.heap.size = go) := ⟨_, Lib.hid rfl⟩
        have HO_go : Hid (BoxO w5 go o) := Lib.hid (by rw [← H_w5.out, ← H_go.out]; exact BoxO.new wr o)
        have HL_w5 : Hid (Below wr.heap.size wr w5) := Lib.hid (by rw [← H_w5.out]; exact (Below.refl _ _).alloc (Nat.le_refl _) _)
        rw [show wr.alloc (.cells #[.int .i64 o.kind, .int .i64 o.node, .int .i64 o.by_, .int .i64 o.inc, .bool o.own] 40) = w5 from H_w5.out]
        try rw [H_go.out]
        have HB5 : Hid (Below w.heap.size w w5) := Lib.hid (bnext HB.out HL_w5.out)
        have Hv5 : Hid (Var w5 (fun h => h = gv) gv xv V) := Lib.hid (Hv.out.below HL_w5.out)
        have hg5 : gv < w5.heap.size := Hv5.out.box.lt
        cases hm : (o.kind.tmod 2 == 0) with
        | true =>
          obtain ⟨o0, o1, o2, o3, o4⟩ := HO_go.out.cells
          have q5 := HO_go.out.lt
          obtain ⟨v0, v1, v2, v3, v4⟩ := Hv5.out.box.cells
          go_wp2_with fail
          refine (Join_any w5 xv V Hv5.out.isV o.node (ok_sm HK.out)).mono ?_
          rintro e w6 ⟨x2, rfl, hT6, hb6⟩
          have HT6 := Lib.hid hT6
          have Hv6 : Hid (Var w6 (fun h => h = gv) gv xv V) := Lib.hid (Hv5.out.below hb6)
          have HB6 : Hid (Below w.heap.size w w6) := Lib.hid (bnext HB5.out hb6)
          have Hb6 := Lib.hid hb6
          clear hT6 hb6
          clear v0 v1 v2 v3 v4 o0 o1 o2 o3 o4
          clear q5
          go_upto_region 9 with (fail)
          obtain ⟨w7, H_w7⟩ : ∃ w7, Hid (w6.alloc (.cells (vC x2) 25) = w7) := ⟨_, Lib.hid rfl⟩
          obtain ⟨gx, H_gx⟩ : ∃ gx, Hid (w6.heap.size = gx) := ⟨_, Lib.hid rfl⟩
          have HX_gx : Hid (BoxV w7 gx x2) := Lib.hid (by rw [← H_w7.out, ← H_gx.out]; exact BoxV.new w6 x2)
          have HL_w7 : Hid (Below w6.heap.size w6 w7) := Lib.hid (by rw [← H_w7.out]; exact (Below.refl _ _).alloc (Nat.le_refl _) _)
          rw [show w6.alloc (.cells #[.int .i64 x2.nodes, .int .i64 x2.epoch, .slice x2.mA x2.mn x2.mc, .slice x2.dA x2.dn x2.dc, .slice x2.iA x2.ir x2.ic] 25) = w7 from H_w7.out]
          try rw [H_gx.out]
          have HB7 : Hid (Below w.heap.size w w7) := Lib.hid (bnext HB6.out HL_w7.out)
          have Hv7 : Hid (Var w7 (fun h => h = gv) gv xv V) := Lib.hid (Hv6.out.below HL_w7.out)
          have HT7 := Lib.hid (HT6.out.below HL_w7.out)
          have HV8 : Hid (Var (setV w7 gv x2) (fun h => h = gv) gv x2 (joinV V o.node)) := Lib.hid (Hv5.out.store (bnext Hb6.out HL_w7.out) HT7.out (fun h e => by omega) rfl)
          have HB8 : Hid (Below w.heap.size w (setV w7 gv x2)) := Lib.hid (bmod HB7.out (setV_mod w7 gv x2) Hgv.out)
          have HK8 : Hid (Ok (joinV V o.node)) := Lib.hid (ok_join HK.out _)
          obtain ⟨v0, v1, v2, v3, v4⟩ := HX_gx.out.cells
          obtain ⟨y0, y1, y2, y3, y4⟩ := Hv7.out.box.cells
          have f0 := Hv7.out.box.free 0
          have f1 := Hv7.out.box.free 1
          have f2 := Hv7.out.box.free 2
          have f3 := Hv7.out.box.free 3
          have f4 := Hv7.out.box.free 4
          have hgx := HX_gx.out.lt
          have hne : ¬ gx = gv := by have := Hv6.out.box.lt; have := H_gx.out; omega
          have hne' : ¬ gv = gx := fun e => hne e.symm
          go_wp2
          clear v0 v1 v2 v3 v4 y0 y1 y2 y3 y4 f0 f1 f2 f3 f4
          go_roundw
          case rel => exact ⟨j + 1, x2, _, by go_num, by omega, HB8, HV8, HK8⟩
          case measure => simp [intOf]; omega
        | false =>
          obtain ⟨o0, o1, o2, o3, o4⟩ := HO_go.out.cells
          have q5 := HO_go.out.lt
          obtain ⟨v0, v1, v2, v3, v4⟩ := Hv5.out.box.cells
          go_wp2_with fail
          refine (Leave_any w5 xv V Hv5.out.isV o.by_ o.node (ok_sm HK.out)).mono ?_
          rintro e w6 ⟨x2, rfl, hT6, hb6⟩
          have HT6 := Lib.hid hT6
          have Hv6 : Hid (Var w6 (fun h => h = gv) gv xv V) := Lib.hid (Hv5.out.below hb6)
          have HB6 : Hid (Below w.heap.size w w6) := Lib.hid (bnext HB5.out hb6)
          have Hb6 := Lib.hid hb6
          clear hT6 hb6
          clear v0 v1 v2 v3 v4 o0 o1 o2 o3 o4
          clear q5
          go_upto_region 11 with (fail)
          obtain ⟨w7, H_w7⟩ : ∃ w7, Hid (w6.alloc (.cells (vC x2) 25) = w7) := ⟨_, Lib.hid rfl⟩
          obtain ⟨gx, H_gx⟩ : ∃ gx, Hid (w6.heap.size = gx) := ⟨_, Lib.hid rfl⟩
          have HX_gx : Hid (BoxV w7 gx x2) := Lib.hid (by rw [← H_w7.out, ← H_gx.out]; exact BoxV.new w6 x2)
          have HL_w7 : Hid (Below w6.heap.size w6 w7) := Lib.hid (by rw [← H_w7.out]; exact (Below.refl _ _).alloc (Nat.le_refl _) _)
          rw [show w6.alloc (.cells #[.int .i64 x2.nodes, .int .i64 x2.epoch, .slice x2.mA x2.mn x2.mc, .slice x2.dA x2.dn x2.dc, .slice x2.iA x2.ir x2.ic] 25) = w7 from H_w7.out]
          try rw [H_gx.out]
          have HB7 : Hid (Below w.heap.size w w7) := Lib.hid (bnext HB6.out HL_w7.out)
          have Hv7 : Hid (Var w7 (fun h => h = gv) gv xv V) := Lib.hid (Hv6.out.below HL_w7.out)
          have HT7 := Lib.hid (HT6.out.below HL_w7.out)
          have HV8 : Hid (Var (setV w7 gv x2) (fun h => h = gv) gv x2 (leaveV V o.by_ o.node)) := Lib.hid (Hv5.out.store (bnext Hb6.out HL_w7.out) HT7.out (fun h e => by omega) rfl)
          have HB8 : Hid (Below w.heap.size w (setV w7 gv x2)) := Lib.hid (bmod HB7.out (setV_mod w7 gv x2) Hgv.out)
          have HK8 : Hid (Ok (leaveV V o.by_ o.node)) := Lib.hid (ok_leave HK.out _ _)
          obtain ⟨v0, v1, v2, v3, v4⟩ := HX_gx.out.cells
          obtain ⟨y0, y1, y2, y3, y4⟩ := Hv7.out.box.cells
          have f0 := Hv7.out.box.free 0
          have f1 := Hv7.out.box.free 1
          have f2 := Hv7.out.box.free 2
          have f3 := Hv7.out.box.free 3
          have f4 := Hv7.out.box.free 4
          have hgx := HX_gx.out.lt
          have hne : ¬ gx = gv := by have := Hv6.out.box.lt; have := H_gx.out; omega
          have hne' : ¬ gv = gx := fun e => hne e.symm
          go_wp2
          clear v0 v1 v2 v3 v4 y0 y1 y2 y3 y4 f0 f1 f2 f3 f4
          go_roundw
          case rel => exact ⟨j + 1, x2, _, by go_num, by omega, HB8, HV8, HK8⟩
          case measure => simp [intOf]; omega
      · have hex : ∀ h40 : Bool, h40 = decide ((j : Int) < 40) → True := fun _ _ => trivial
        clear hex
        rcases Nat.lt_or_ge j len with h | h
        · have h1 : decide ((j : Int) < (len : Int)) = true := by simpa using h
          have h2 : decide ((j : Int) < 40) = false := by
            have : ¬ j < 40 := fun h2 => hlt ⟨h, h2⟩
            simp; omega
          go_wp2
          go_meet
          case rel => exact ⟨xv, V, HB, Hv, HK⟩
        · have h1 : decide ((j : Int) < (len : Int)) = false := by simpa using h
          go_wp2
          go_meet
          case rel => exact ⟨xv, V, HB, Hv, HK⟩
  case rest =>
  clear HVv HB4 HK0
  obtain ⟨xv, V, HB, Hv, HK⟩ := hcut
  go_upto_block 2 with (fail)
  go_cut [13, 14, 15] (fun _ _ _ wx => ∃ (xv : Vx) (V : Vw), Hid (Below w.heap.size w wx) ∧ Hid (Var wx (fun h => h = gv) gv xv V) ∧ Hid (Ok V) ∧ Hid (V.dead = []))
  case first =>
    go_wp2
    go_loopw [13, 14, 15] (fun i _ _ wr => ∃ (j : Nat) (xv : Vx) (V : Vw), i = .int .i64 (j : Int) ∧ j ≤ 20 ∧ Hid (Below w.heap.size w wr) ∧ Hid (Var wr (fun h => h = gv) gv xv V) ∧ Hid (Ok V) ∧ Hid (V.dead.length + j ≤ 20)) (fun i _ _ _ => 20 - (intOf i).toNat)
    case atStart => exact ⟨0, xv, V, rfl, by omega, HB, Hv, HK, Lib.hid HK.out.dl⟩
    case round =>
      clear HB Hv HK xv V
      obtain ⟨j, xv, V, rfl, hj, HB, Hv, HK, HD⟩ := hrel
      have hdl := Lib.hid (RowM.len Hv.out.told.dead)
      by_cases hlt : j < 20
      · have hlt' : decide ((j : Int) < 20) = true := by simp; omega
        obtain ⟨v0, v1, v2, v3, v4⟩ := Hv.out.box.cells
        by_cases hd : 0 < xv.dn
        · have hd' : decide (0 < (xv.dn : Int)) = true := by simpa using hd
          go_upto_region 15 with (fail)
          clear v0 v1 v2 v3 v4
          obtain ⟨g, off, eA, hg, hcs⟩ := Hv.out.isV.dead.cells hd
          obtain ⟨d, hd0⟩ : ∃ d, V.dead[0]? = some d := ⟨_, List.getElem?_eq_getElem (by have := hdl.out; omega)⟩
          obtain ⟨hc0, hc1, _⟩ := hcs 0 d hd0
          simp only [Nat.zero_mul, Nat.add_zero] at hc0 hc1
          have Hfirst := Lib.hid (dead_first HK.out hd0)
          have hix : ∀ w : World, (Instr.indexAt 22 (.slice xv.dA xv.dn xv.dc) (.int .i64 0)).run Try.prog w = .ok (.pointer (some ⟨g, off, none⟩)) w := fun w => by
            have := idxM (n := xv.dn) (c := xv.dc) eA hd w
            simpa using this
          clear hcs eA hd0
          have v0 : ∀ y : In (Abv wr), y.u.cell? ⟨gv, 0, none⟩ = some (.int .i64 xv.nodes) := fun y => (Hv.out.box.below y.is).cells.1
          have v1 : ∀ y : In (Abv wr), y.u.cell? ⟨gv, 1, none⟩ = some (.int .i64 xv.epoch) := fun y => (Hv.out.box.below y.is).cells.2.1
          have v2 : ∀ y : In (Abv wr), y.u.cell? ⟨gv, 2, none⟩ = some (.slice xv.mA xv.mn xv.mc) := fun y => (Hv.out.box.below y.is).cells.2.2.1
          have v3 : ∀ y : In (Abv wr), y.u.cell? ⟨gv, 3, none⟩ = some (.slice xv.dA xv.dn xv.dc) := fun y => (Hv.out.box.below y.is).cells.2.2.2.1
          have v4 : ∀ y : In (Abv wr), y.u.cell? ⟨gv, 4, none⟩ = some (.slice xv.iA xv.ir xv.ic) := fun y => (Hv.out.box.below y.is).cells.2.2.2.2
          have k0 : ∀ y : In (Abv wr), y.u.cell? ⟨g, off, none⟩ = some (.int .i64 d.1) := fun y => (y.is.cell (p := ⟨g, off, none⟩) hg).trans hc0
          have k1 : ∀ y : In (Abv wr), y.u.cell? ⟨g, off + 1, none⟩ = some (.int .i64 d.2.1) := fun y => (y.is.cell (p := ⟨g, off + 1, none⟩) hg).trans hc1
          clear hc0 hc1
          refine wp_region_mix2 (by kernel_rfl) (Cls (Abv wr)) 15 11 [(0, 0), (1, 0), (2, 0), (3, 0), (4, 0), (5, 0), (6, 0), (7, 0), (8, 0), (9, 0), (10, 0), (15, 1), (11, 1), (12, 0), (13, 0), (14, 0), (17, 0), (16, 1)] [(0, 0), (1, 0), (2, 0), (3, 0), (4, 0), (5, 0), (6, 0), (7, 0), (8, 0), (9, 0), (10, 0), (11, 1), (12, 0), (13, 0), (14, 0), (17, 0), (15, 1), (16, 1)] (by kernel_rfl) (by kernel_rfl) (by kernel_rfl) (cls (Below.refl _ _).drew) ?_ ?_
          · repeat (refine mix0 rfl (fun K hK => ?_); go_simp; refine hK _ ?_; clear hK K)
            refine mix1 rfl (fun K hK => ?_)
            go_simp
            have hb1 : Below wr.heap.size wr (wr.drew.alloc (.cells #[.int .i64 0, .int .i64 0, .slice none 0 0, .slice none 0 0, .slice none 0 0] 25 (0, 0))) := balloc (Below.refl _ _).drew _
            refine hK _ _ (cls hb1) ?_
            clear hK K
            refine mix1 rfl (fun K hK => ?_)
            go_simp
            refine (Bury_any _ xv V (Hv.out.isV.below hb1) d.1 d.2.1 (ok_sm HK.out)).mono ?_
            rw [Hfirst.out.1]
            rintro e w6 ⟨x2, rfl, hT6, hb6⟩
            have HT6 := Lib.hid hT6
            have Hb6 : Hid (Below wr.heap.size wr w6) := Lib.hid (bnext hb1 hb6)
            have hz : BoxV w6 wr.heap.size noVx := ⟨(hb6.block _ (by simp)).trans (heap_alloc_new _ _)⟩
            have Hz := Lib.hid hz
            have Hn6 : Hid (Told w6 (wr.heap.size + 1) x2 (buryV V d.1 d.2.1)) := Lib.hid (by have := HT6.out; simpa using this)
            clear hz
            clear hT6 hb6
            refine ⟨_, rfl, hK _ _ (cls Hb6.out) ?_⟩
            clear hK K
            iterate 4 (refine mix0 rfl (fun K hK => ?_); go_simp; refine hK _ ?_; clear hK K)
            refine mix1 rfl (fun K hK => ?_)
            go_simp
            obtain ⟨z0, z1, z2, z3, z4⟩ := Hz.out.cells
            have f0 := Hz.out.free 0
            have f1 := Hz.out.free 1
            have f2 := Hz.out.free 2
            have f3 := Hz.out.free 3
            have f4 := Hz.out.free 4
            go_simp
            refine hK _ _ (cls ((setV_mod w6 wr.heap.size x2).below Hb6.out (Nat.le_of_lt Hz.out.lt) (fun i e => by rw [show i = wr.heap.size from e]; exact Nat.le_refl _))) ?_
            clear hK K
            refine mixEnd ?_
            clear z0 z1 z2 z3 z4 f0 f1 f2 f3 f4
            obtain ⟨u8, Hu8⟩ : ∃ u8, Hid (setV w6 wr.heap.size x2 = u8) := ⟨_, Lib.hid rfl⟩
            obtain ⟨gx, Hgx⟩ : ∃ gx, Hid (wr.heap.size = gx) := ⟨_, Lib.hid rfl⟩
            have HX8 : Hid (BoxV u8 gx x2) := Lib.hid (by rw [← Hu8.out, ← Hgx.out]; exact setV_box Hz.out x2)
            have HL8 : Hid (Below wr.heap.size wr u8) := Lib.hid (by rw [← Hu8.out]; exact (setV_mod w6 wr.heap.size x2).below Hb6.out (Nat.le_of_lt Hz.out.lt) (fun i e => by rw [show i = wr.heap.size from e]; exact Nat.le_refl _))
            have HT8 : Hid (Told u8 wr.heap.size x2 (buryV V d.1 d.2.1)) := Lib.hid (by
              rw [← Hu8.out]
              have h := Hn6.out.kept (setV_mod w6 wr.heap.size x2) (fun i e => by
                have e' : i = wr.heap.size := e
                subst e'
                exact ⟨fun h => by have := Hn6.out.newM _ h; omega, fun h => by have := Hn6.out.newD _ h; omega, fun h => by have := Hn6.out.newI _ h; omega⟩)
              exact { h with newM := fun g hg => by have := h.newM g hg; omega, newD := fun g hg => by have := h.newD g hg; omega, newI := fun g hg => by have := h.newI g hg; omega })
            have hne : ¬ gx = gv := by have := Hv.out.box.lt; have := Hgx.out; omega
            rw [show ((((w6.setCell ⟨wr.heap.size, 0, none⟩ (.int .i64 x2.nodes)).setCell ⟨wr.heap.size, 1, none⟩ (.int .i64 x2.epoch)).setCell ⟨wr.heap.size, 2, none⟩ (.slice x2.mA x2.mn x2.mc)).setCell ⟨wr.heap.size, 3, none⟩ (.slice x2.dA x2.dn x2.dc)).setCell ⟨wr.heap.size, 4, none⟩ (.slice x2.iA x2.ir x2.ic) = u8 from Hu8.out]
            rw [Hgx.out]
            have HD8 : Hid ((buryV V d.1 d.2.1).dead.length + (j + 1) ≤ 20) := Lib.hid (by have := Hfirst.out.2; have := HD.out; omega)
            have HK8 : Hid (Ok (buryV V d.1 d.2.1)) := Lib.hid (ok_bury HK.out _ _)
            have e2 : ((x2.dn : Int) != (xv.dn : Int) - 1) = false := bne_no (by have := Hfirst.out.2; have := RowM.len HT8.out.dead; have := hdl.out; omega)
            have Hv8 : Hid (Var u8 (fun h => h = gv) gv xv V) := Lib.hid (Hv.out.below HL8.out)
            have HV9 : Hid (Var (setV u8 gv x2) (fun h => h = gv) gv x2 (buryV V d.1 d.2.1)) := Lib.hid (Hv.out.store HL8.out HT8.out (fun h e => by have := Hv.out.box.lt; omega) rfl)
            have HB9 : Hid (Below w.heap.size w (setV u8 gv x2)) := Lib.hid (bmod (bnext HB.out HL8.out) (setV_mod u8 gv x2) Hgv.out)
            clear hix v0 v1 v2 v3 v4 k0 k1
            obtain ⟨v0, v1, v2, v3, v4⟩ := Hv8.out.box.cells
            obtain ⟨y0, y1, y2, y3, y4⟩ := HX8.out.cells
            have f0 := Hv8.out.box.free 0
            have f1 := Hv8.out.box.free 1
            have f2 := Hv8.out.box.free 2
            have f3 := Hv8.out.box.free 3
            have f4 := Hv8.out.box.free 4
            have hne' : ¬ gv = gx := fun e => hne e.symm
            have hxl : xv.dn ≤ 20 := by have := hdl.out; have := HD.out; omega
            go_wp2
            clear v0 v1 v2 v3 v4 y0 y1 y2 y3 y4 f0 f1 f2 f3 f4
            go_roundw
            case rel => exact ⟨j + 1, x2, _, by go_num, by omega, HB9, HV9, HK8, HD8⟩
            case measure => simp [intOf]; omega
          · repeat (refine mix0 rfl (fun K hK => ?_); go_simp; refine hK _ ?_; clear hK K)
            refine mix1 rfl (fun K hK => ?_)
            go_simp
            refine (Bury_any _ xv V (Hv.out.isV.below (Below.refl _ _).drew) d.1 d.2.1 (ok_sm HK.out)).mono ?_
            rw [Hfirst.out.1]
            rintro e w6 ⟨x2, rfl, hT6, hb6⟩
            have HT6 := Lib.hid hT6
            have Hb6 : Hid (Below wr.heap.size wr w6) := Lib.hid ((Below.refl _ _).drew.trans hb6)
            clear hT6 hb6
            refine ⟨_, rfl, hK _ _ (cls Hb6.out) ?_⟩
            clear hK K
            iterate 4 (refine mix0 rfl (fun K hK => ?_); go_simp; refine hK _ ?_; clear hK K)
            refine mix1 rfl (fun K hK => ?_)
            go_simp
            refine hK _ _ (cls (balloc Hb6.out _)) ?_
            clear hK K
            refine mix1 rfl (fun K hK => ?_)
            go_simp
            refine hK _ _ (cls (balloc Hb6.out _)) ?_
            clear hK K
            refine mixEnd ?_
            obtain ⟨u8, Hu8⟩ : ∃ u8, Hid (w6.alloc (.cells (vC x2) 25) = u8) := ⟨_, Lib.hid rfl⟩
            obtain ⟨gx, Hgx⟩ : ∃ gx, Hid (w6.heap.size = gx) := ⟨_, Lib.hid rfl⟩
            have HX8 : Hid (BoxV u8 gx x2) := Lib.hid (by rw [← Hu8.out, ← Hgx.out]; exact BoxV.new w6 x2)
            have HL8 : Hid (Below wr.heap.size wr u8) := Lib.hid (by rw [← Hu8.out]; exact balloc Hb6.out _)
            have HT8 : Hid (Told u8 wr.heap.size x2 (buryV V d.1 d.2.1)) := Lib.hid (by
              rw [← Hu8.out]
              have h := HT6.out.below ((Below.refl w6.heap.size w6).alloc (Nat.le_refl _) (.cells (vC x2) 25))
              exact h)
            have hne : ¬ gx = gv := by have := (Hv.out.below Hb6.out).box.lt; have := Hgx.out; omega
            rw [show w6.alloc (.cells #[.int .i64 x2.nodes, .int .i64 x2.epoch, .slice x2.mA x2.mn x2.mc, .slice x2.dA x2.dn x2.dc, .slice x2.iA x2.ir x2.ic] 25) = u8 from Hu8.out]
            rw [Hgx.out]
            have HD8 : Hid ((buryV V d.1 d.2.1).dead.length + (j + 1) ≤ 20) := Lib.hid (by have := Hfirst.out.2; have := HD.out; omega)
            have HK8 : Hid (Ok (buryV V d.1 d.2.1)) := Lib.hid (ok_bury HK.out _ _)
            have e2 : ((x2.dn : Int) != (xv.dn : Int) - 1) = false := bne_no (by have := Hfirst.out.2; have := RowM.len HT8.out.dead; have := hdl.out; omega)
            have Hv8 : Hid (Var u8 (fun h => h = gv) gv xv V) := Lib.hid (Hv.out.below HL8.out)
            have HV9 : Hid (Var (setV u8 gv x2) (fun h => h = gv) gv x2 (buryV V d.1 d.2.1)) := Lib.hid (Hv.out.store HL8.out HT8.out (fun h e => by have := Hv.out.box.lt; omega) rfl)
            have HB9 : Hid (Below w.heap.size w (setV u8 gv x2)) := Lib.hid (bmod (bnext HB.out HL8.out) (setV_mod u8 gv x2) Hgv.out)
            clear hix v0 v1 v2 v3 v4 k0 k1
            obtain ⟨v0, v1, v2, v3, v4⟩ := Hv8.out.box.cells
            obtain ⟨y0, y1, y2, y3, y4⟩ := HX8.out.cells
            have f0 := Hv8.out.box.free 0
            have f1 := Hv8.out.box.free 1
            have f2 := Hv8.out.box.free 2
            have f3 := Hv8.out.box.free 3
            have f4 := Hv8.out.box.free 4
            have hne' : ¬ gv = gx := fun e => hne e.symm
            have hxl : xv.dn ≤ 20 := by have := hdl.out; have := HD.out; omega
            go_wp2
            clear v0 v1 v2 v3 v4 y0 y1 y2 y3 y4 f0 f1 f2 f3 f4
            go_roundw
            case rel => exact ⟨j + 1, x2, _, by go_num, by omega, HB9, HV9, HK8, HD8⟩
            case measure => simp [intOf]; omega
        · have hd' : decide (0 < (xv.dn : Int)) = false := by simpa using hd
          have Hnil : Hid (V.dead = []) := Lib.hid (List.eq_nil_of_length_eq_zero (by have := hdl.out; omega))
          go_wp2
          clear v0 v1 v2 v3 v4
          go_meet
          case rel => exact ⟨xv, V, HB, Hv, HK, Hnil⟩
      · have hlt' : decide ((j : Int) < 20) = false := by simp; omega
        have Hnil : Hid (V.dead = []) := Lib.hid (List.eq_nil_of_length_eq_zero (by have := HD.out; omega))
        go_wp2
        go_meet
        case rel => exact ⟨xv, V, HB, Hv, HK, Hnil⟩
  case rest =>
  clear HB Hv HK xv V
  obtain ⟨xv, V, HB, Hv, HK, HN⟩ := hcut
  obtain ⟨mm, Hmm⟩ : ∃ mm, Hid (V.mem.length = mm) := ⟨_, Lib.hid rfl⟩
  go_upto_block 4 with (fail)
  go_cut [16, 17, 18, 19] (fun _ _ _ _ wx => ∃ (xv : Vx) (V : Vw), Hid (Below w.heap.size w wx) ∧ Hid (Var wx (fun h => h = gv) gv xv V) ∧ Hid (Ok V) ∧ Hid (V.dead = [] ∧ openB V = enoughB V))
  case first =>
    go_wp2
    go_loopw [16, 17, 18, 19] (fun i _ _ _ wr => ∃ (j : Nat) (xv : Vx) (V : Vw), i = .int .i64 (j : Int) ∧ Hid (j ≤ V.mem.length) ∧ Hid (Below w.heap.size w wr) ∧ Hid (Var wr (fun h => h = gv) gv xv V) ∧ Hid (Ok V) ∧ Hid (V.dead = [] ∧ rdTo V.mem j ∧ V.mem.length = mm)) (fun i _ _ _ _ => mm - (intOf i).toNat)
    case atStart => exact ⟨0, xv, V, rfl, Lib.hid (Nat.zero_le _), HB, Hv, HK, Lib.hid ⟨HN.out, fun i m hi => absurd hi (Nat.not_lt_zero _), Hmm.out⟩⟩
    case round =>
      clear HB Hv HK HN
      clear Hmm xv V
      obtain ⟨j, xv, V, rfl, Hj, HB, Hv, HK, HD⟩ := hrel
      have hml := Lib.hid (RowM.len Hv.out.told.mem)
      have hm8 : xv.mn ≤ 8 := by have := ok_len HK.out; have := HK.out.n8; have := hml.out; omega
      obtain ⟨v0, v1, v2, v3, v4⟩ := Hv.out.box.cells
      by_cases hlt : j < xv.mn
      · have hlt' : decide ((j : Int) < (xv.mn : Int)) = true := by simp; omega
        obtain ⟨g, off, eA, hg, hcs⟩ := Hv.out.isV.mem.cells (by omega)
        obtain ⟨m, hm0⟩ : ∃ m, V.mem[j]? = some m := ⟨_, List.getElem?_eq_getElem (by have := hml.out; omega)⟩
        obtain ⟨c0, c1, c2⟩ := hcs j m hm0
        have hix := fun w => idxM (n := xv.mn) (c := xv.mc) eA hlt w
        have Hm0 := Lib.hid hm0
        clear hcs eA hm0
        go_upto_region 23 with (fail)
        clear c0 c1 c2 v0 v1 v2 v3 v4 hix
        obtain ⟨w5, H_w5⟩ : ∃ w5, Hid (wr.alloc (.cells #[.int .i64 m.1, .int .i64 m.2.1, .bool m.2.2] 53) = w5) := ⟨_, Lib.hid rfl⟩
        obtain ⟨gm, H_gm⟩ : ∃ gm, Hid (wr.heap.size = gm) := ⟨_, Lib.hid rfl⟩
        have HM_gm : Hid (BoxM w5 gm m) := Lib.hid (by rw [← H_w5.out, ← H_gm.out]; exact BoxM.new wr m)
        have HL_w5 : Hid (Below wr.heap.size wr w5) := Lib.hid (by rw [← H_w5.out]; exact (Below.refl _ _).alloc (Nat.le_refl _) _)
        rw [H_w5.out, H_gm.out]
        have HB5 : Hid (Below w.heap.size w w5) := Lib.hid (bnext HB.out HL_w5.out)
        have Hv5 : Hid (Var w5 (fun h => h = gv) gv xv V) := Lib.hid (Hv.out.below HL_w5.out)
        have hg5 : gv < w5.heap.size := Hv5.out.box.lt
        obtain ⟨m0, m1, m2⟩ := HM_gm.out.cells
        cases hr : m.2.2 with
        | true =>
          rw [hr] at m2
          have HD2 : Hid (V.dead = [] ∧ rdTo V.mem (j + 1) ∧ V.mem.length = mm) := Lib.hid ⟨HD.out.1, rdTo_step HD.out.2.1 Hm0.out hr, HD.out.2.2⟩
          have Hj2 : Hid (j + 1 ≤ V.mem.length) := Lib.hid (by have := hml.out; omega)
          clear hr
          go_wp2
          clear m0 m1 m2
          go_roundw
          case rel => exact ⟨j + 1, xv, V, by go_num, Hj2, HB5, Hv5, HK, HD2⟩
          case measure => have := Hj2.out; have := HD2.out.2.2; simp [intOf]; omega
        | false =>
          rw [hr] at m2
          have Hrf := Lib.hid (ready_first HK.out Hm0.out hr)
          have hno := not_open (List.mem_of_getElem? Hm0.out) hr
          have Hno := Lib.hid hno
          have HD2 : Hid ((readyV V m.1 m.2.1).dead = [] ∧ rdTo (readyV V m.1 m.2.1).mem (j + 1) ∧ (readyV V m.1 m.2.1).mem.length = mm) := Lib.hid (by
            rw [Hrf.out.2]
            exact ⟨HD.out.1, rdTo_set HD.out.2.1 Hm0.out, by rw [List.length_set]; exact HD.out.2.2⟩)
          have Hj2 : Hid (j + 1 ≤ (readyV V m.1 m.2.1).mem.length) := Lib.hid (by rw [Hrf.out.2, List.length_set]; have := hml.out; omega)
          have He2 : Hid ((readyV V m.1 m.2.1).epoch = V.epoch) := Lib.hid (by rw [Hrf.out.2])
          clear hr hno
          obtain ⟨v0, v1, v2, v3, v4⟩ := Hv5.out.box.cells
          go_wp2_with fail
          clear m0 m1 m2
          refine (Open_any w5 xv V Hv5.out.isV (by have := hml.out; omega)).mono ?_
          rw [Hno.out]
          rintro e w6 ⟨rfl, hb6⟩
          have Hv6 : Hid (Var w6 (fun h => h = gv) gv xv V) := Lib.hid (Hv5.out.below hb6)
          have HB6 : Hid (Below w.heap.size w w6) := Lib.hid (bnext HB5.out hb6)
          have HM6 : Hid (BoxM w6 gm m) := Lib.hid (HM_gm.out.below hb6)
          clear hb6 v0 v1 v2 v3 v4
          obtain ⟨v0, v1, v2, v3, v4⟩ := Hv6.out.box.cells
          obtain ⟨m0, m1, m2⟩ := HM6.out.cells
          have hgm := HM6.out.lt
          go_wp2_with fail
          clear m0 m1 m2 v0 v1 v2 v3 v4
          refine (Ready_any w6 xv V Hv6.out.isV m.1 m.2.1 (ok_sm HK.out)).mono ?_
          rw [Hrf.out.1]
          rintro e w7 ⟨x2, rfl, hT7, hb7⟩
          have HT7 := Lib.hid hT7
          have Hv7 : Hid (Var w7 (fun h => h = gv) gv xv V) := Lib.hid (Hv6.out.below hb7)
          have HB7 : Hid (Below w.heap.size w w7) := Lib.hid (bnext HB6.out hb7)
          have Hb7 := Lib.hid hb7
          clear hT7 hb7
          go_upto_region 27 with (fail)
          obtain ⟨w8, H_w8⟩ : ∃ w8, Hid (w7.alloc (.cells (vC x2) 25) = w8) := ⟨_, Lib.hid rfl⟩
          obtain ⟨gx, H_gx⟩ : ∃ gx, Hid (w7.heap.size = gx) := ⟨_, Lib.hid rfl⟩
          have HX_gx : Hid (BoxV w8 gx x2) := Lib.hid (by rw [← H_w8.out, ← H_gx.out]; exact BoxV.new w7 x2)
          have HL_w8 : Hid (Below w7.heap.size w7 w8) := Lib.hid (by rw [← H_w8.out]; exact (Below.refl _ _).alloc (Nat.le_refl _) _)
          rw [show w7.alloc (.cells #[.int .i64 x2.nodes, .int .i64 x2.epoch, .slice x2.mA x2.mn x2.mc, .slice x2.dA x2.dn x2.dc, .slice x2.iA x2.ir x2.ic] 25) = w8 from H_w8.out]
          try rw [H_gx.out]
          have HB8 : Hid (Below w.heap.size w w8) := Lib.hid (bnext HB7.out HL_w8.out)
          have Hv8 : Hid (Var w8 (fun h => h = gv) gv xv V) := Lib.hid (Hv7.out.below HL_w8.out)
          have HT8 := Lib.hid (HT7.out.below HL_w8.out)
          have HV9 : Hid (Var (setV w8 gv x2) (fun h => h = gv) gv x2 (readyV V m.1 m.2.1)) := Lib.hid (Hv6.out.store (bnext Hb7.out HL_w8.out) HT8.out (fun h e => by have := Hv6.out.box.lt; omega) rfl)
          have HB9 : Hid (Below w.heap.size w (setV w8 gv x2)) := Lib.hid (bmod HB8.out (setV_mod w8 gv x2) Hgv.out)
          have HK9 : Hid (Ok (readyV V m.1 m.2.1)) := Lib.hid (ok_ready HK.out _ _)
          have e2 : (x2.epoch != xv.epoch) = false := bne_no (by have := HT8.out.epoch; have := Hv.out.told.epoch; have := He2.out; omega)
          obtain ⟨v0, v1, v2, v3, v4⟩ := HX_gx.out.cells
          obtain ⟨y0, y1, y2, y3, y4⟩ := Hv8.out.box.cells
          have f0 := Hv8.out.box.free 0
          have f1 := Hv8.out.box.free 1
          have f2 := Hv8.out.box.free 2
          have f3 := Hv8.out.box.free 3
          have f4 := Hv8.out.box.free 4
          have hgx := HX_gx.out.lt
          have hne : ¬ gx = gv := by have := Hv7.out.box.lt; have := H_gx.out; omega
          have hne' : ¬ gv = gx := fun e => hne e.symm
          go_wp2
          clear v0 v1 v2 v3 v4 y0 y1 y2 y3 y4 f0 f1 f2 f3 f4
          go_roundw
          case rel => exact ⟨j + 1, x2, _, by go_num, Hj2, HB9, HV9, HK9, HD2⟩
          case measure => have := Hj2.out; have := HD2.out.2.2; simp [intOf]; omega
      · have hlt' : decide ((j : Int) < (xv.mn : Int)) = false := by simp; omega
        have Hop : Hid (V.dead = [] ∧ openB V = enoughB V) := Lib.hid ⟨HD.out.1, rdTo_open HD.out.2.1 (by have := hml.out; omega) HD.out.1⟩
        go_wp2
        clear v0 v1 v2 v3 v4
        go_meet
        case rel => exact ⟨xv, V, HB, Hv, HK, Hop⟩
  case rest =>
  clear HB Hv HK HN Hmm xv V
  obtain ⟨xv, V, HB, Hv, HK, HN⟩ := hcut
  have hsm := Lib.hid (ok_sm HK.out)
  obtain ⟨v0, v1, v2, v3, v4⟩ := Hv.out.box.cells
  go_wp2_with fail
  clear v0 v1 v2 v3 v4
  refine (Join_any _ xv V Hv.out.isV 0 hsm.out).mono ?_
  rintro e w6 ⟨x2, rfl, hT6, hb6⟩
  have HT6 := Lib.hid hT6
  have Hv6 : Hid (Var w6 (fun h => h = gv) gv xv V) := Lib.hid (Hv.out.below hb6)
  have HB6 : Hid (Below w.heap.size w w6) := Lib.hid (bnext HB.out hb6)
  clear hT6 hb6
  go_upto_region 31 with (fail)
  obtain ⟨w7, H_w7⟩ : ∃ w7, Hid (w6.alloc (.cells (vC x2) 25) = w7) := ⟨_, Lib.hid rfl⟩
  obtain ⟨gx, H_gx⟩ : ∃ gx, Hid (w6.heap.size = gx) := ⟨_, Lib.hid rfl⟩
  have HX_gx : Hid (BoxV w7 gx x2) := Lib.hid (by rw [← H_w7.out, ← H_gx.out]; exact BoxV.new w6 x2)
  have HL_w7 : Hid (Below w6.heap.size w6 w7) := Lib.hid (by rw [← H_w7.out]; exact (Below.refl _ _).alloc (Nat.le_refl _) _)
  rw [show w6.alloc (.cells #[.int .i64 x2.nodes, .int .i64 x2.epoch, .slice x2.mA x2.mn x2.mc, .slice x2.dA x2.dn x2.dc, .slice x2.iA x2.ir x2.ic] 25) = w7 from H_w7.out]
  try rw [H_gx.out]
  have HB7 : Hid (Below w.heap.size w w7) := Lib.hid (bnext HB6.out HL_w7.out)
  have Hv7 : Hid (Var w7 (fun h => h = gv) gv xv V) := Lib.hid (Hv6.out.below HL_w7.out)
  have HT7 := Lib.hid (HT6.out.below HL_w7.out)
  have v0 : ∀ y : In (Abv w7), y.u.cell? ⟨gv, 0, none⟩ = some (.int .i64 xv.nodes) := fun y => (Hv7.out.box.below y.is).cells.1
  have v1 : ∀ y : In (Abv w7), y.u.cell? ⟨gv, 1, none⟩ = some (.int .i64 xv.epoch) := fun y => (Hv7.out.box.below y.is).cells.2.1
  have v2 : ∀ y : In (Abv w7), y.u.cell? ⟨gv, 2, none⟩ = some (.slice xv.mA xv.mn xv.mc) := fun y => (Hv7.out.box.below y.is).cells.2.2.1
  have v3 : ∀ y : In (Abv w7), y.u.cell? ⟨gv, 3, none⟩ = some (.slice xv.dA xv.dn xv.dc) := fun y => (Hv7.out.box.below y.is).cells.2.2.2.1
  have v4 : ∀ y : In (Abv w7), y.u.cell? ⟨gv, 4, none⟩ = some (.slice xv.iA xv.ir xv.ic) := fun y => (Hv7.out.box.below y.is).cells.2.2.2.2
  have k0 : ∀ y : In (Abv w7), y.u.cell? ⟨gx, 0, none⟩ = some (.int .i64 x2.nodes) := fun y => (HX_gx.out.below y.is).cells.1
  have k1 : ∀ y : In (Abv w7), y.u.cell? ⟨gx, 1, none⟩ = some (.int .i64 x2.epoch) := fun y => (HX_gx.out.below y.is).cells.2.1
  have k2 : ∀ y : In (Abv w7), y.u.cell? ⟨gx, 2, none⟩ = some (.slice x2.mA x2.mn x2.mc) := fun y => (HX_gx.out.below y.is).cells.2.2.1
  have k3 : ∀ y : In (Abv w7), y.u.cell? ⟨gx, 3, none⟩ = some (.slice x2.dA x2.dn x2.dc) := fun y => (HX_gx.out.below y.is).cells.2.2.2.1
  have k4 : ∀ y : In (Abv w7), y.u.cell? ⟨gx, 4, none⟩ = some (.slice x2.iA x2.ir x2.ic) := fun y => (HX_gx.out.below y.is).cells.2.2.2.2
  have hd0 : ((xv.dn : Int) == 0) = true := beq_yes (by have := RowM.len Hv7.out.told.dead; rw [HN.out.1] at this; simp at this; omega)
  obtain ⟨ob, Hob⟩ : ∃ ob, Hid (openB V = ob) := ⟨_, Lib.hid rfl⟩
  obtain ⟨jn, Hjn⟩ : ∃ jn, Hid (joinN V 0 = jn) := ⟨_, Lib.hid rfl⟩
  have Hen : Hid (enoughB V = ob) := Lib.hid (HN.out.2.symm.trans Hob.out)
  have HSm2 : Hid (Sm (joinV V 0)) := Lib.hid (ok_sm (ok_join HK.out 0))
  have hjs := join_shut HK.out 0
  rw [Hjn.out] at hjs
  rw [Hjn.out]
  rcases hjs with hj | ⟨hj, ho⟩
  · have hj0 : (jn == 0) = true := beq_yes hj
    clear hj
    refine wp_region_mix (by kernel_rfl) (Cls (Abv w7)) [(0, 0), (1, 0), (2, 0), (4, 0), (3, 1), (5, 1), (6, 0), (7, 0), (8, 0), (9, 0), (10, 0), (11, 0), (12, 0), (13, 0), (14, 0), (15, 0), (16, 0), (17, 0), (18, 0), (19, 1), (20, 0), (21, 0), (22, 0), (23, 0)] (by kernel_rfl) (cls (Below.refl _ _).drew) ?_
    iterate 4 (refine mix0 rfl (fun K hK => ?_); go_simp; refine hK _ ?_; clear hK K)
    refine mix1 rfl (fun K hK => ?_)
    go_simp
    refine (Open_any _ xv V (Hv7.out.isV.below (Below.refl _ _).drew) (by have := hsm.out.mem; omega)).mono ?_
    rw [Hob.out]
    rintro e w8 ⟨rfl, hb8⟩
    have Hb8 : Hid (Below w7.heap.size w7 w8) := Lib.hid ((Below.refl _ _).drew.trans hb8)
    clear hb8
    refine ⟨_, rfl, hK _ _ (cls Hb8.out) ?_⟩
    clear hK K
    refine mix1 rfl (fun K hK => ?_)
    go_simp
    refine (Enough_any _ xv V (Hv7.out.isV.below Hb8.out) (by have := hsm.out.mem; omega)).mono ?_
    rw [Hen.out]
    rintro e w9 ⟨rfl, hb9⟩
    have Hb9 : Hid (Below w7.heap.size w7 w9) := Lib.hid (bnext Hb8.out hb9)
    clear hb9
    refine ⟨_, rfl, hK _ _ (cls Hb9.out) ?_⟩
    clear hK K
    iterate 13 (refine mix0 rfl (fun K hK => ?_); go_simp; refine hK _ ?_; clear hK K)
    refine mix1 rfl (fun K hK => ?_)
    go_simp
    refine hK _ _ (cls Hb9.out) ?_
    clear hK K
    iterate 4 (refine mix0 rfl (fun K hK => ?_); go_simp; refine hK _ ?_; clear hK K)
    refine mixEnd ?_
    go_wp2
    go_ret
    exact ⟨rfl, bnext HB7.out Hb9.out⟩
  · have hj0 : (jn == 0) = false := beq_no hj
    have Hno := Lib.hid ho
    clear hj ho
    refine wp_region_mix (by kernel_rfl) (Cls (Abv w7)) [(0, 0), (1, 0), (2, 0), (4, 0), (3, 1), (5, 1), (6, 0), (7, 0), (8, 0), (9, 0), (10, 0), (11, 0), (12, 0), (13, 0), (14, 0), (15, 0), (16, 0), (17, 0), (18, 0), (19, 1), (20, 0), (21, 0), (22, 0), (23, 0)] (by kernel_rfl) (cls (Below.refl _ _).drew) ?_
    iterate 4 (refine mix0 rfl (fun K hK => ?_); go_simp; refine hK _ ?_; clear hK K)
    refine mix1 rfl (fun K hK => ?_)
    go_simp
    refine (Open_any _ xv V (Hv7.out.isV.below (Below.refl _ _).drew) (by have := hsm.out.mem; omega)).mono ?_
    rw [Hob.out]
    rintro e w8 ⟨rfl, hb8⟩
    have Hb8 : Hid (Below w7.heap.size w7 w8) := Lib.hid ((Below.refl _ _).drew.trans hb8)
    clear hb8
    refine ⟨_, rfl, hK _ _ (cls Hb8.out) ?_⟩
    clear hK K
    refine mix1 rfl (fun K hK => ?_)
    go_simp
    refine (Enough_any _ xv V (Hv7.out.isV.below Hb8.out) (by have := hsm.out.mem; omega)).mono ?_
    rw [Hen.out]
    rintro e w9 ⟨rfl, hb9⟩
    have Hb9 : Hid (Below w7.heap.size w7 w9) := Lib.hid (bnext Hb8.out hb9)
    clear hb9
    refine ⟨_, rfl, hK _ _ (cls Hb9.out) ?_⟩
    clear hK K
    iterate 13 (refine mix0 rfl (fun K hK => ?_); go_simp; refine hK _ ?_; clear hK K)
    refine mix1 rfl (fun K hK => ?_)
    go_simp
    refine (Open_any _ x2 (joinV V 0) (HT7.out.isV.below Hb9.out) (by have := HSm2.out.mem; omega)).mono ?_
    rw [Hno.out]
    rintro e w10 ⟨rfl, hb10⟩
    have Hb10 : Hid (Below w7.heap.size w7 w10) := Lib.hid (bnext Hb9.out hb10)
    clear hb10
    refine ⟨_, rfl, hK _ _ (cls Hb10.out) ?_⟩
    clear hK K
    iterate 4 (refine mix0 rfl (fun K hK => ?_); go_simp; refine hK _ ?_; clear hK K)
    refine mixEnd ?_
    go_wp2
    go_ret
    exact ⟨rfl, bnext HB7.out Hb10.out⟩
theorem own : ownKnob Try.prog.godebug = none := by kernel_rfl
theorem laidOut : laidOutB Try.prog = true := by kernel_rfl
set_option maxRecDepth 100000 in
theorem lifted (os : Os) (started : os.Started) (H : Type) (enc : TypeId × Value → H) :
    ReturnsInHanded {} Try.checked os 9 .any (Rows.viewOpensSpec.pre6 enc Try.prog Try.f9 Rows.viewOpensRow.domain false) (Rows.viewOpensSpec.post enc Try.prog Try.f9 false true false false) := by
  refine returnsInHanded_of_change (C := Try.checked) own started (by kernel_rfl) Try.func9
    (ChangeSpec.witness6 (enc := enc) (C := Try.checked) false ⟨#[], #[.int .i64 0, .slice none 0 0], []⟩ 8 (by kernel_rfl) (by kernel_rfl) (by kernel_rfl) (by kernel_rfl)) ?_
  intro W base args ds gs before hval0 hW hcnd _
  have hval : ∀ (j : Nat) t v, Try.f9.params[j]? = some t → args[j]? = some v → Value.okWide Try.prog W .any base t v := hval0
  have hW' := hW
  obtain ⟨p, q, hA0, hV, rfl, hfz, hnd⟩ := hW
  have hA : DataW.TrodAll enc Try.prog W 0 (fun _ => true) true Try.f9.params.toList args.toList ds p := hA0
  rw [Try.params9] at hA hval
  obtain ⟨v0, vs0, d0, ds0, p0, q0, hargs, rfl, rfl, h0, r0⟩ := trodAll_cons hA
  obtain ⟨v1, vs1, d1, ds1, p1, q1, rfl, rfl, rfl, h1, r1⟩ := trodAll_cons r0
  obtain ⟨rfl, rfl, rfl⟩ := trodAll_nil r1
  obtain rfl : args = #[v0, v1] := by cases args; simp_all
  obtain ⟨a0, rfl, rfl, rfl, w0⟩ := open_int Try.underlying3 (hval 0 3 v0 rfl rfl) h0
  obtain ⟨x1, len1, cap1, a1, rfl, w1, y1⟩ := opens_ops (hval 1 38 v1 rfl rfl) h1
  clear hA0 hval0
  refine (walk a0 x1 len1 cap1 a1 W w0 w1 y1).mono fun e W' ⟨he, bel⟩ => ?_
  subst he
  exact ⟨_, rfl, law_post laidOut (by rw [Try.params9]; decide +kernel) rfl Try.underlying4 rfl hW' (fun _ => rfl) bel⟩
theorem over : Rows.viewOpensRow.holds Try.pinned (OpenSpec.ofChange Rows.viewOpensSpec) :=
  OpenClaim.holds_of_wide 9 Try.f9 rfl rfl rfl rfl rfl rfl rfl ⟨rfl, rfl, rfl, rfl, rfl⟩ rfl rfl rfl rfl rfl (by kernel_rfl) Try.func9 (by kernel_rfl)
    (of_decide_eq_true (by kernel_rfl)) (by unfold Func.isWrapper; first | (rw [if_pos (by decide +kernel)]; kernel_rfl) | (rw [if_neg (by decide +kernel)]; exact ⟨rfl, rfl⟩))
    (fun os started H enc _ => lifted os started H enc)
theorem proved : Rows.ViewOpensSaid := over
end Go.Proofs.Ythdkoigiabmpaaa.viewOpens
