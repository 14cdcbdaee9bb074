/- ViewKeeps: of a view that was made and changed in whatever way: it may be, no two keys are one, its number rises with each Join and Leave, and nobody is ready behind these; who leaves leaves more than half behind. No conditions. -/
import Derived.Test.YthdkoigiabmpaaaRows
import Derived.Test.YthdkoigiabmpaaaAwake06
import Derived.Test.YthdkoigiabmpaaaArr
import Derived.Test.YthdkoigiabmpaaaKeep
import Derived.Test.YthdkoigiabmpaaaOps06
import Derived.Deep.DeepCutAuto
import Derived.Deep.CutBlock
namespace Go.Proofs.Ythdkoigiabmpaaa.viewKeeps
open Go.RowKit Go.ChangeShapes Go.WideShapes Go.ChangeAt
open Go.ChangeMaps (open_string shut_string)

theorem tmod4 (a : Int) : -4 < a.tmod 4 ∧ a.tmod 4 < 4 := by
  rcases Int.le_total 0 a with h | h
  · rw [Int.tmod_eq_emod_of_nonneg h]; omega
  · have : a.tmod 4 = -((-a) % 4) := by rw [← Int.tmod_eq_emod_of_nonneg (by omega), Int.neg_tmod, Int.neg_neg]
    rw [this]; omega
/-- A key that somebody had. -/
def keyIn (V : Vw) (k : Int) : Prop := k = 0 ∨ ∃ nd inc : Int, 0 ≤ nd ∧ nd < 8 ∧ 1 ≤ inc ∧ inc ≤ incAt V nd ∧ k = 8 * inc + nd + 1
theorem join_inc {V : Vw} {node : Int} (h : joinOk V node = true) (k : Int) (hk : 0 ≤ k) : incAt (joinV V node) k = if k = node then incAt V node + 1 else incAt V k := by
  obtain ⟨h0, _, _, h3, h4, _⟩ := joinOk_parts h
  have hl := h0.len
  unfold joinV
  rw [if_pos h]
  show (List.set (diedV V node).incs node.toNat (incAt V node + 1)).getD k.toNat 0 = _
  rw [(died_len V node).2.2.1]
  exact set_at _ _ _ _ h3 hk (by omega)
theorem join_same {V : Vw} {node : Int} (h : joinOk V node = false) : joinV V node = V ∧ joinN V node = 0 := by
  unfold joinV joinN
  rw [h]
  exact ⟨rfl, rfl⟩
theorem join_n {V : Vw} {node : Int} (h : joinOk V node = true) : joinN V node = incAt V node + 1 := by
  unfold joinN
  rw [h]
  rfl
theorem join_key {V : Vw} {node : Int} (h : joinOk V node = true) : keyOf node (joinN V node) = 8 * (incAt V node + 1) + node + 1 ∧ 0 < joinN V node := by
  obtain ⟨h0, _, _, h3, h4, h5⟩ := joinOk_parts h
  have hb := incAt_mem h0 h3 h4
  have h8 := h0.n8
  rw [join_n h]
  refine ⟨?_, by omega⟩
  unfold keyOf
  rw [if_neg (by omega)]
theorem join_fresh {V : Vw} {node : Int} (h : joinOk V node = true) {k : Int} (hk : keyIn V k) : k ≠ keyOf node (joinN V node) := by
  obtain ⟨h0, _, _, h3, h4, h5⟩ := joinOk_parts h
  have hb := incAt_mem h0 h3 h4
  rw [(join_key h).1]
  rcases hk with rfl | ⟨nd, inc, k0, k1, k2, k3, rfl⟩
  · omega
  · intro e
    have h8 := h0.n8
    have : nd = node := by omega
    subst this
    omega
theorem keys_join {V : Vw} {node : Int} {ks : List Int} (hk : ∀ k ∈ ks, keyIn V k) : ∀ k ∈ ks ++ [keyOf node (joinN V node)], keyIn (joinV V node) k := by
  intro k hm
  cases h : joinOk V node with
  | false =>
    obtain ⟨e1, e2⟩ := join_same h
    rw [e2] at hm
    rw [e1]
    rcases List.mem_append.1 hm with hm | hm
    · exact hk k hm
    · obtain rfl := List.mem_singleton.1 hm
      left
      unfold keyOf
      rw [if_pos (by omega)]
  | true =>
    obtain ⟨h0, _, _, h3, h4, h5⟩ := joinOk_parts h
    have hb := incAt_mem h0 h3 h4
    have h8 := h0.n8
    rcases List.mem_append.1 hm with hm | hm
    · rcases hk k hm with rfl | ⟨nd, inc, k0, k1, k2, k3, rfl⟩
      · exact .inl rfl
      · refine .inr ⟨nd, inc, k0, k1, k2, ?_, rfl⟩
        rw [join_inc h nd k0]
        split
        · rename_i e; subst e; omega
        · exact k3
    · obtain rfl := List.mem_singleton.1 hm
      refine .inr ⟨node, incAt V node + 1, h3, by omega, by omega, ?_, (join_key h).1⟩
      rw [join_inc h node h3, if_pos rfl]
      omega
theorem keys_same {V V' : Vw} (h : V'.incs = V.incs) {ks : List Int} (hk : ∀ k ∈ ks, keyIn V k) : ∀ k ∈ ks, keyIn V' k := by
  intro k hm
  have : ∀ nd, incAt V' nd = incAt V nd := fun nd => by unfold incAt; rw [h]
  rcases hk k hm with rfl | ⟨nd, inc, h⟩
  · exact .inl rfl
  · exact .inr ⟨nd, inc, by rw [this]; exact h⟩
/-- What a change leaves. -/
structure Chg (V V' : Vw) (kk : Nat) (d : Bool) : Prop where
  ok : Ok V'
  ep1 : kk < 2 → d = true → V'.epoch = V.epoch + 1
  ep0 : ¬ (kk < 2 ∧ d = true) → V'.epoch = V.epoch
  un : d = true → ∀ m ∈ V'.mem, m.2.2 = false
theorem un_turn (V : Vw) : ∀ m ∈ (turnV V).mem, m.2.2 = false := fun m hm => by
  obtain ⟨x, _, rfl⟩ := List.mem_map.1 hm
  rfl
theorem chg_join {V : Vw} (hV : Ok V) (node : Int) : Chg V (joinV V node) 0 (decide (0 < joinN V node)) := by
  cases h : joinOk V node with
  | false =>
    obtain ⟨e1, e2⟩ := join_same h
    rw [e1, e2]
    exact ⟨hV, fun _ h => (by simp at h), fun _ => rfl, fun h => (by simp at h)⟩
  | true =>
    have hk := (join_key h).2
    have e : joinV V node = turnV (comeV (diedV V node) node (incAt V node + 1)) := by unfold joinV; rw [if_pos h]
    refine ⟨ok_join hV node, fun _ _ => ?_, fun h => absurd ⟨by omega, by simpa using hk⟩ h, fun _ => ?_⟩
    · rw [e]
      show (diedV V node).epoch + 1 = _
      rw [(died_len V node).2.2.2.1]
    · rw [e]
      exact un_turn _
theorem chg_leave {V : Vw} (hV : Ok V) (by_ node : Int) : Chg V (leaveV V by_ node) 1 (leaveB V by_ node) := by
  cases h : leaveB V by_ node with
  | false =>
    rw [leave_not h]
    exact ⟨hV, fun _ h => (by cases h), fun _ => rfl, fun h => (by cases h)⟩
  | true =>
    obtain ⟨m, hm, e, _⟩ := leave_parts h
    refine ⟨ok_leave hV by_ node, fun _ _ => by rw [e]; rfl, fun h => absurd ⟨by omega, rfl⟩ h, fun _ => by rw [e]; exact un_turn _⟩
theorem leave_incs (V : Vw) (by_ node : Int) : (leaveV V by_ node).incs = V.incs := by
  cases h : leaveB V by_ node with
  | false => rw [leave_not h]
  | true => obtain ⟨m, hm, e, _⟩ := leave_parts h; rw [e]; rfl
theorem leave_said {V : Vw} (hV : Ok V) {by_ node : Int} (h : leaveB V by_ node = true) : (leaveV V by_ node).nodes < 2 * ((leaveV V by_ node).mem.length : Int) ∧ incOf (leaveV V by_ node) node = 0 ∧ (leaveV V by_ node).dead.length = V.dead.length + 1 := by
  obtain ⟨m, hm, e, _, h2, h3⟩ := leave_parts h
  obtain ⟨hi, _⟩ := List.getElem?_eq_some_iff.1 hm
  rw [e]
  refine ⟨?_, ?_, ?_⟩
  · show V.nodes < 2 * (((List.map unr (V.mem.take _ ++ V.mem.drop _)).length : Nat) : Int)
    simp
    omega
  · have hn := (ok_die hV hm h2).2
    rw [(of_at hm).1] at hn
    have : (turnV (dieV V (V.mem.findIdx (pOf node)) m)).mem.findIdx (pOf node) = (turnV (dieV V (V.mem.findIdx (pOf node)) m)).mem.length := by
      rw [List.findIdx_eq_length]
      intro x hx
      obtain ⟨y, hy, rfl⟩ := List.mem_map.1 hx
      have := hn y hy
      simpa [pOf, unr] using this
    unfold incOf
    rw [this, List.getElem?_eq_none (Nat.le_refl _)]
  · show (V.dead.take _ ++ [_] ++ V.dead.drop _).length = _
    simp
    omega
theorem chg_ready {V : Vw} (hV : Ok V) (node inc : Int) : Chg V (readyV V node inc) 2 false ∧ (readyV V node inc).incs = V.incs := by
  cases h : readyB V node inc with
  | false =>
    rw [ready_not h]
    exact ⟨⟨hV, fun h => by omega, fun _ => rfl, fun h => (by cases h)⟩, rfl⟩
  | true =>
    obtain ⟨m, hm, _, e⟩ := ready_parts h
    exact ⟨⟨ok_ready hV node inc, fun h => by omega, fun _ => by rw [e], fun h => (by cases h)⟩, by rw [e]⟩
theorem chg_bury {V : Vw} (hV : Ok V) (node inc : Int) : Chg V (buryV V node inc) 3 false ∧ (buryV V node inc).incs = V.incs := by
  refine ⟨⟨ok_bury hV node inc, fun h => by omega, fun _ => ?_, fun h => (by cases h)⟩, ?_⟩ <;>
  · unfold buryV; split <;> rfl
/-- The lists of a view, away from a statement's blocks. -/
structure Lst (w : World) (S : Nat → Prop) (x : Vx) (V : Vw) : Prop where
  told : Told w 0 x V
  away : ∀ h, blk (mS x) = some h ∨ blk (dS x) = some h ∨ blk (iS x) = some h → ¬ S h
theorem Lst.of {w : World} {S : Nat → Prop} {B : Nat} {x : Vx} {V : Vw} (t : Told w B x V) (hs : ∀ h, S h → h < B) : Lst w S x V :=
  ⟨t.low, fun i hi hS => by have := (t.lt hi).1; have := hs i hS; omega⟩
theorem Lst.below {w w' : World} {S : Nat → Prop} {x : Vx} {V : Vw} (h : Lst w S x V) (m : Below w.heap.size w w') : Lst w' S x V := ⟨h.told.below m, h.away⟩
theorem Lst.mod {w w' : World} {S T : Nat → Prop} {x : Vx} {V : Vw} (h : Lst w S x V) (m : Mod T w w') (ht : ∀ i, T i → S i) : Lst w' S x V :=
  ⟨h.told.kept m (fun i e => ⟨fun h1 => h.away _ (.inl h1) (ht i e), fun h1 => h.away _ (.inr (.inl h1)) (ht i e), fun h1 => h.away _ (.inr (.inr h1)) (ht i e)⟩), h.away⟩
theorem Lst.wider {w : World} {S S' : Nat → Prop} {x : Vx} {V : Vw} (h : Lst w S x V) (hs : ∀ i, S' i → S i ∨ w.heap.size ≤ i) : Lst w S' x V :=
  ⟨h.told, fun i hi hS => by
    rcases hs i hS with h1 | h1
    · exact h.away i hi h1
    · have := (h.told.lt hi).2; omega⟩
theorem Lst.isV {w : World} {S : Nat → Prop} {x : Vx} {V : Vw} (h : Lst w S x V) : IsV w x V := h.told.isV
/-- A statement's blocks: its views' and its row's. -/
def Sk (a b : Nat) (v : Value) : Nat → Prop := fun h => h = a ∨ h = b ∨ blk v = some h
theorem jfresh (V : Vw) (node jn : Int) (hj : joinN V node = jn) (ks : List Int) (hk : ∀ k ∈ ks, keyIn V k) (hp : 0 < jn) : ∀ k ∈ ks, k ≠ keyOf node jn := by
  subst hj
  cases h : joinOk V node with
  | false => rw [(join_same h).2] at hp; omega
  | true => exact fun k hm => join_fresh h (hk k hm)
theorem jkey (V : Vw) (node jn : Int) (hj : joinN V node = jn) (hp : 0 < jn) : 1 ≤ keyOf node jn := by
  subst hj
  cases h : joinOk V node with
  | false => rw [(join_same h).2] at hp; omega
  | true =>
    obtain ⟨h0, _, _, h3, h4, _⟩ := joinOk_parts h
    have := incAt_mem h0 h3 h4
    rw [(join_key h).1]
    omega
set_option maxRecDepth 100000 in
set_option maxHeartbeats 8000000 in
theorem walk (nodes : Int) (A : Option Addr) (len cap : Nat) (vs : Nat → OpV) (w : World) (_ : (Lit.int .i64 nodes).wf = true) (hvs : IsOps w A len vs) (_ : len ≤ cap) :
    Calls Try.prog 6 #[.int .i64 nodes, .slice A len cap] w fun e w' => e = .returned (.bool true) ∧ Below w.heap.size w w' := by
  have Hvs := Lib.hid hvs
  have hlen : len ≤ 9223372036854775807 := by have := hvs.max; unfold maxLen at this; omega
  clear hvs
  obtain ⟨i0, hi, hz0, hz1, hz2⟩ := info_parts infoI
  have Hi := Lib.hid hi
  have Hz0 := Lib.hid hz0
  have Hz1 := Lib.hid hz1
  have Hz2 := Lib.hid hz2
  clear hi hz0 hz1 hz2
  obtain ⟨n0, Hn0, hn0⟩ := and_small nodes 7 (.inr rfl)
  have hbn := Hn0.out
  rw [show ((7 : Nat) : Int) = 7 from rfl] at hbn
  obtain ⟨n, Hn⟩ : ∃ n, Hid ((1 : Int) + (n0 : Int) = n) := ⟨_, Lib.hid rfl⟩
  go_enter Try.func6, Try.ntmps6
  go_wp2_with fail
  refine (awake_any _).mono ?_
  rintro e w2 ⟨rfl, hb2⟩
  have HB2 : Hid (Below w.heap.size w w2) := Lib.hid hb2
  clear hb2
  go_wp2_with fail
  rw [Hn.out]
  clear hbn
  refine (New_any n w2).mono ?_
  rintro e w3 ⟨x0, rfl, hT0, hb3⟩
  have HT0 := Lib.hid hT0
  have HB3 : Hid (Below w.heap.size w w3) := Lib.hid (bnext HB2.out hb3)
  clear hT0 hb3
  go_upto_region 3 with (fail)
  obtain ⟨w4, H_w4⟩ : ∃ w4, Hid (w3.alloc (.cells (vC x0) 25) = w4) := ⟨_, Lib.hid rfl⟩
  obtain ⟨gv, H_gv⟩ : ∃ gv, Hid (w3.heap.size = gv) := ⟨_, Lib.hid rfl⟩
  have HX_gv : Hid (BoxV w4 gv x0) := Lib.hid (by rw [← H_w4.out, ← H_gv.out]; exact BoxV.new w3 x0)
  have HL_w4 : Hid (Below w3.heap.size w3 w4) := Lib.hid (by rw [← H_w4.out]; exact (Below.refl _ _).alloc (Nat.le_refl _) _)
  rw [show w3.alloc (.cells #[.int .i64 x0.nodes, .int .i64 x0.epoch, .slice x0.mA x0.mn x0.mc, .slice x0.dA x0.dn x0.dc, .slice x0.iA x0.ir x0.ic] 25) = w4 from H_w4.out]
  try rw [H_gv.out]
  have HB4 : Hid (Below w.heap.size w w4) := Lib.hid (bnext HB3.out HL_w4.out)
  have Hgv : Hid (w.heap.size ≤ gv) := Lib.hid (by have := HB3.out.size; have := H_gv.out; omega)
  have HV0 : Hid (Lst w4 (Sk gv gv (.slice none 0 0)) x0 (newV n)) := Lib.hid (by
    have h := HT0.out.below HL_w4.out
    exact ⟨h.low, fun i hi hS => by
      have h1 := HT0.out.lt hi
      rcases hS with rfl | rfl | hS
      · have := H_gv.out; omega
      · have := H_gv.out; omega
      · cases hS⟩)
  have HK0 : Hid (Ok (newV n)) := Lib.hid (ok_new n)
  have HR0 : Hid (RowI w4 none 0 0 []) := Lib.hid (row_nil _ _)
  have HKy0 : Hid (∀ k ∈ ([] : List Int), keyIn (newV n) k) := Lib.hid (fun k hk => by cases hk)
  go_wp2
  go_loopw [7, 8, 9, 10, 11, 12, 13, 14, 15, 16, 17, 18, 19, 20, 21, 22, 23, 24, 25] (fun kv i _ _ _ _ _ _ _ _ _ _ _ _ _ _ _ _ _ wr => ∃ (j : Nat) (xv : Vx) (V : Vw) (kA : Option Addr) (kn kc : Nat) (ks : List Int), i = .int .i64 (j : Int) ∧ j ≤ len ∧ kv = .slice kA kn kc ∧ kn ≤ j ∧ Hid (Below w.heap.size w wr) ∧ Hid (BoxV wr gv xv) ∧ Hid (Lst wr (Sk gv gv (.slice kA kn kc)) xv V) ∧ Hid (Ok V) ∧ Hid (RowI wr kA kn kc ks) ∧ Hid (∀ k ∈ ks, keyIn V k) ∧ Hid (∀ g, blk (.slice kA kn kc) = some g → g ≠ gv ∧ w.heap.size ≤ g)) (fun _ i _ _ _ _ _ _ _ _ _ _ _ _ _ _ _ _ _ _ => len - (intOf i).toNat)
  case atStart => exact ⟨0, x0, _, none, 0, 0, [], rfl, Nat.zero_le _, rfl, Nat.le_refl _, HB4, HX_gv, HV0, HK0, HR0, HKy0, Lib.hid (by intro g h; cases h)⟩
  case round =>
    obtain ⟨j, xv, V, kA, kn, kc, ks, rfl, hj, rfl, hkn, HB, Hv, HL, HK, HR, HKy, Hkg⟩ := hrel
    by_cases hlt : j < len ∧ j < 60
    case neg =>
      rcases Nat.lt_or_ge j len with h | h
      · have h1 : decide ((j : Int) < (len : Int)) = true := by simpa using h
        have h2 : decide ((j : Int) < 60) = false := by
          have : ¬ j < 60 := fun h2 => hlt ⟨h, h2⟩
          simp; omega
        go_wp2
        go_ret
        exact ⟨rfl, HB.out⟩
      · have h1 : decide ((j : Int) < (len : Int)) = false := by simpa using h
        go_wp2
        go_ret
        exact ⟨rfl, HB.out⟩
    case pos =>
      obtain ⟨hlt, hlt6⟩ := hlt
      obtain ⟨b, off, eA, hop⟩ := Hvs.out.at HB.out hlt
      subst eA
      obtain ⟨o, Ho⟩ : ∃ o, Hid (vs j = o) := ⟨_, Lib.hid rfl⟩
      rw [Ho.out] at hop
      have hwinc := hop.winc
      have hwkind := hop.wkind
      have o0 := hop.kind
      have o1 := hop.node
      have o2 := hop.by_
      have o3 := hop.inc
      have o4 := hop.own
      clear hop
      go_upto_region 8 with (fail)
      clear o0 o1 o2 o3 o4
      obtain ⟨w5, H_w5⟩ : ∃ w5, Hid (wr.alloc (.cells #[.int .i64 o.kind, .int .i64 o.node, .int .i64 o.by_, .int .i64 o.inc, .bool o.own] 40) = w5) := ⟨_, Lib.hid rfl⟩
      obtain ⟨go, H_go⟩ : ∃ go, Hid (wr.heap.size = go) := ⟨_, Lib.hid rfl⟩
      have HO_go : Hid (BoxO w5 go o) := Lib.hid (by rw [← H_w5.out, ← H_go.out]; exact BoxO.new wr o)
      have HL_w5 : Hid (Below wr.heap.size wr w5) := Lib.hid (by rw [← H_w5.out]; exact (Below.refl _ _).alloc (Nat.le_refl _) _)
      rw [show wr.alloc (.cells #[.int .i64 o.kind, .int .i64 o.node, .int .i64 o.by_, .int .i64 o.inc, .bool o.own] 40) = w5 from H_w5.out]
      try rw [H_go.out]
      have HB5 : Hid (Below w.heap.size w w5) := Lib.hid (bnext HB.out HL_w5.out)
      have Hv5 : Hid (BoxV w5 gv xv) := Lib.hid (Hv.out.below HL_w5.out)
      have HL5 := Lib.hid (HL.out.below HL_w5.out)
      have hwi := Lib.hid hwinc
      have hwk := Lib.hid hwkind
      clear hwinc hwkind
      obtain ⟨o0, o1, o2, o3, o4⟩ := HO_go.out.cells
      have q5 := HO_go.out.lt
      obtain ⟨v0, v1, v2, v3, v4⟩ := Hv5.out.cells
      go_wp2_with fail
      refine (of_o_any w5 o hwi.out xv V HL5.out.isV (by have := HK.out.dl; omega)).mono ?_
      rintro e w6 ⟨nd, ic, rfl, hb6⟩
      have HB6 : Hid (Below w.heap.size w w6) := Lib.hid (bnext HB5.out hb6)
      have Hb6 : Hid (Below wr.heap.size wr w6) := Lib.hid (bnext HL_w5.out hb6)
      have HO6 := Lib.hid (HO_go.out.below hb6)
      have Hv6 := Lib.hid (Hv5.out.below hb6)
      clear hb6 o0 o1 o2 o3 o4 q5 v0 v1 v2 v3 v4
      obtain ⟨v0, v1, v2, v3, v4⟩ := Hv6.out.cells
      go_upto_region 10 with (fail)
      clear v0 v1 v2 v3 v4
      obtain ⟨w7, H_w7⟩ : ∃ w7, Hid (w6.alloc (.cells (vC xv) 25) = w7) := ⟨_, Lib.hid rfl⟩
      obtain ⟨gw, H_gw⟩ : ∃ gw, Hid (w6.heap.size = gw) := ⟨_, Lib.hid rfl⟩
      have HX_gw : Hid (BoxV w7 gw xv) := Lib.hid (by rw [← H_w7.out, ← H_gw.out]; exact BoxV.new w6 xv)
      have HL_w7 : Hid (Below w6.heap.size w6 w7) := Lib.hid (by rw [← H_w7.out]; exact (Below.refl _ _).alloc (Nat.le_refl _) _)
      rw [show w6.alloc (.cells #[.int .i64 xv.nodes, .int .i64 xv.epoch, .slice xv.mA xv.mn xv.mc, .slice xv.dA xv.dn xv.dc, .slice xv.iA xv.ir xv.ic] 25) = w7 from H_w7.out]
      try rw [H_gw.out]
      have HB7 : Hid (Below w.heap.size w w7) := Lib.hid (bnext HB6.out HL_w7.out)
      have Hb7 : Hid (Below wr.heap.size wr w7) := Lib.hid (bnext Hb6.out HL_w7.out)
      have HO7 := Lib.hid (HO6.out.below HL_w7.out)
      have Hv7 := Lib.hid (Hv6.out.below HL_w7.out)
      obtain ⟨o0, o1, o2, o3, o4⟩ := HO7.out.cells
      have Hgw : Hid (gv < gw ∧ go < gw ∧ gw < w7.heap.size ∧ w.heap.size ≤ gw ∧ wr.heap.size ≤ gw) := Lib.hid (by
        have h1 := Hv6.out.lt
        have h2 := HO6.out.lt
        have h3 := H_gw.out
        have h4 := HX_gw.out.lt
        have h5 := HB6.out.size
        have h6 := Hb6.out.size
        omega)
      have HL7 : Hid (Lst w7 (Sk gv gw (.slice kA kn kc)) xv V) := Lib.hid (((HL.out.below Hb6.out).wider (fun i hi => by
        rcases hi with h | h | h
        · exact .inl (.inl h)
        · exact .inr (by have := H_gw.out; omega)
        · exact .inl (.inr (.inr h)))).below HL_w7.out)
      have HR7 : Hid (RowI w7 kA kn kc ks) := Lib.hid (HR.out.later (S := fun _ => False) (Mod.of_below Hb7.out) (fun _ _ h => h))
      have Hkg7 : Hid (∀ g, blk (.slice kA kn kc) = some g → g ≠ gv ∧ w.heap.size ≤ g ∧ g < gw) := Lib.hid (fun g hg => ⟨(Hkg.out g hg).1, (Hkg.out g hg).2, by have := HR.out.blk_lt hg; have := Hgw.out; omega⟩)
      go_upto_if 56 with (fail)
      obtain ⟨z, Hz⟩ : ∃ z, Hid (o.kind.tmod 4 = z) := ⟨_, Lib.hid rfl⟩
      have hz1 : -4 < z ∧ z < 4 := by rw [← Hz.out]; exact tmod4 _
      rw [Hz.out]
      go_cut [14] (fun s wx => ∃ kk : Nat, s = .int .i64 (kk : Int) ∧ kk < 4 ∧ wx = w7)
      case first =>
        by_cases hz0 : z < 0
        · have hd : decide (z < 0) = true := by simpa using hz0
          obtain ⟨kk, hk⟩ : ∃ kk : Nat, z + 4 = (kk : Int) := ⟨(z + 4).toNat, by omega⟩
          go_wp2
          go_meet
          case rel => exact ⟨kk, by first | rfl | rw [hk], by omega, rfl⟩
        · have hd : decide (z < 0) = false := by simpa using hz0
          obtain ⟨kk, rfl⟩ : ∃ kk : Nat, z = (kk : Int) := ⟨z.toNat, by omega⟩
          go_wp2
          go_meet
          case rel => exact ⟨kk, rfl, by omega, rfl⟩
      case rest =>
      clear hz1
      obtain ⟨kk, rfl, hkk, hwc⟩ := hcut
      have hwc' := hwc.symm
      clear hwc
      subst hwc'
      clear o0 o1 o2 o3 o4
      go_upto_block 2 with (fail)
      go_cut [7, 13, 15, 16, 17, 18, 19, 20, 21, 22, 23, 24] (fun kv dv _ _ _ _ _ _ _ _ _ _ wx => ∃ (d : Bool) (x' : Vx) (V' : Vw) (kA' : Option Addr) (kn' kc' : Nat) (ks' : List Int), dv = .bool d ∧ kv = .slice kA' kn' kc' ∧ kn' ≤ j + 1 ∧ Hid (Below w.heap.size w wx) ∧ Hid (BoxV wx gv xv) ∧ Hid (BoxV wx gw x') ∧ Hid (Lst wx (Sk gv gw (.slice kA' kn' kc')) xv V) ∧ Hid (Lst wx (Sk gv gw (.slice kA' kn' kc')) x' V') ∧ Hid (Chg V V' kk d) ∧ Hid (RowI wx kA' kn' kc' ks') ∧ Hid (∀ k ∈ ks', keyIn V' k) ∧ Hid (∀ g, blk (.slice kA' kn' kc') = some g → g ≠ gv ∧ w.heap.size ≤ g ∧ g ≠ gw))
      case first =>
        obtain rfl | rfl | rfl | rfl : kk = 0 ∨ kk = 1 ∨ kk = 2 ∨ kk = 3 := by omega
        · as_aux_lemma =>
            obtain ⟨jn, Hjn⟩ : ∃ jn, Hid (joinN V o.node = jn) := ⟨_, Lib.hid rfl⟩
            obtain ⟨key, Hkey⟩ : ∃ key, Hid (keyOf o.node jn = key) := ⟨_, Lib.hid rfl⟩
            have Hky : Hid (∀ k ∈ ks ++ [key], keyIn (joinV V o.node) k) := Lib.hid (by rw [← Hkey.out, ← Hjn.out]; exact keys_join HKy.out)
            have Hchg0 := Lib.hid (chg_join HK.out o.node)
            have HO7' := HO7.out
            obtain ⟨o0, o1, o2, o3, o4⟩ := HO7'.cells
            clear HO7'
            obtain ⟨v0, v1, v2, v3, v4⟩ := Hv7.out.cells
            go_wp2_with fail
            refine (Join_any w7 xv V HL7.out.isV o.node (ok_sm HK.out)).mono ?_
            rw [Hjn.out]
            rintro e w8 ⟨x2, rfl, hT8, hb8⟩
            have HT8 := Lib.hid hT8
            have Hb8 := Lib.hid hb8
            clear hT8 hb8
            clear v0 v1 v2 v3 v4 o0 o1 o2 o3 o4
            go_upto_region 19 with (fail)
            obtain ⟨w9, H_w9⟩ : ∃ w9, Hid (w8.alloc (.cells (vC x2) 25) = w9) := ⟨_, Lib.hid rfl⟩
            obtain ⟨gx, H_gx⟩ : ∃ gx, Hid (w8.heap.size = gx) := ⟨_, Lib.hid rfl⟩
            have HX_gx : Hid (BoxV w9 gx x2) := Lib.hid (by rw [← H_w9.out, ← H_gx.out]; exact BoxV.new w8 x2)
            have HL_w9 : Hid (Below w8.heap.size w8 w9) := Lib.hid (by rw [← H_w9.out]; exact (Below.refl _ _).alloc (Nat.le_refl _) _)
            rw [show w8.alloc (.cells #[.int .i64 x2.nodes, .int .i64 x2.epoch, .slice x2.mA x2.mn x2.mc, .slice x2.dA x2.dn x2.dc, .slice x2.iA x2.ir x2.ic] 25) = w9 from H_w9.out]
            try rw [H_gx.out]
            have Hb9 : Hid (Below w7.heap.size w7 w9) := Lib.hid (bnext Hb8.out HL_w9.out)
            have HB9 : Hid (Below w.heap.size w w9) := Lib.hid (bnext HB7.out Hb9.out)
            have Hv9 := Lib.hid (Hv7.out.below Hb9.out)
            have Hw9 := Lib.hid (HX_gw.out.below Hb9.out)
            have HO9 := Lib.hid (HO7.out.below Hb9.out)
            have HN9 : Hid (Lst w9 (Sk gv gw (.slice kA kn kc)) x2 (joinV V o.node)) := Lib.hid (Lst.of (HT8.out.below HL_w9.out) (fun i hi => by
              have h := Hgw.out
              rcases hi with h1 | h1 | h1
              · omega
              · omega
              · have := (Hkg7.out i h1).2.2; omega))
            have hgx : gw < gx := by have := Hgw.out; have := Hb8.out.size; have := H_gx.out; omega
            obtain ⟨w10, Hw10⟩ : ∃ w10, Hid (setV w9 gw x2 = w10) := ⟨_, Lib.hid rfl⟩
            have m10 : Mod (· = gw) w9 w10 := by rw [← Hw10.out]; exact setV_mod w9 gw x2
            have HB10 : Hid (Below w.heap.size w w10) := Lib.hid (bmod HB9.out m10 (by have := Hgw.out; omega))
            have Hv10 : Hid (BoxV w10 gv xv) := Lib.hid (Hv9.out.kept m10 (by have := Hgw.out; omega))
            have HO10 : Hid (BoxO w10 go o) := Lib.hid ⟨(m10.block go HO9.out.lt (by have := Hgw.out; omega)).trans HO9.out.blk⟩
            have Hx10 : Hid (BoxV w10 gx x2) := Lib.hid (HX_gx.out.kept m10 (by omega))
            have Hw10b : Hid (BoxV w10 gw x2) := Lib.hid (by rw [← Hw10.out]; exact setV_box Hw9.out x2)
            have HL10 : Hid (Lst w10 (Sk gv gw (.slice kA kn kc)) xv V) := Lib.hid ((HL7.out.below Hb9.out).mod m10 (fun i e => .inr (.inl e)))
            have HN10 : Hid (Lst w10 (Sk gv gw (.slice kA kn kc)) x2 (joinV V o.node)) := Lib.hid (HN9.out.mod m10 (fun i e => .inr (.inl e)))
            have HR10 : Hid (RowI w10 kA kn kc ks) := Lib.hid ((HR7.out.later (S := fun _ => False) (Mod.of_below Hb9.out) (fun _ _ h => h)).later m10 (fun g hg e => by have := (Hkg7.out g hg).2.2; omega))
            clear m10
            obtain ⟨v0, v1, v2, v3, v4⟩ := HX_gx.out.cells
            obtain ⟨y0, y1, y2, y3, y4⟩ := Hw9.out.cells
            have f0 := Hw9.out.free 0
            have f1 := Hw9.out.free 1
            have f2 := Hw9.out.free 2
            have f3 := Hw9.out.free 3
            have f4 := Hw9.out.free 4
            have hgne : ¬ gx = gw := by omega
            have hgne' : ¬ gw = gx := by omega
            go_upto_region 20 with (fail)
            rw [show ((((w9.setCell ⟨gw, 0, none⟩ (.int .i64 x2.nodes)).setCell ⟨gw, 1, none⟩ (.int .i64 x2.epoch)).setCell ⟨gw, 2, none⟩ (.slice x2.mA x2.mn x2.mc)).setCell ⟨gw, 3, none⟩ (.slice x2.dA x2.dn x2.dc)).setCell ⟨gw, 4, none⟩ (.slice x2.iA x2.ir x2.ic) = w10 from Hw10.out]
            clear v0 v1 v2 v3 v4 y0 y1 y2 y3 y4 f0 f1 f2 f3 f4
            clear hgne hgne'
            by_cases hjp : 0 < jn
            · have Hchg : Hid (Chg V (joinV V o.node) 0 true) := Lib.hid (by have := Hchg0.out; rw [Hjn.out] at this; rwa [decide_eq_true hjp] at this)
              have hp : decide (0 < jn) = true := by simpa using hjp
              have Hf := Lib.hid (jfresh V o.node jn Hjn.out ks HKy.out hjp)
              have Hk1 := Lib.hid (jkey V o.node jn Hjn.out hjp)
              clear hjp
              obtain ⟨o0, o1, o2, o3, o4⟩ := HO10.out.cells
              go_wp2_with fail
              refine (Key_any o.node jn _).mono ?_
              rw [Hkey.out]
              rintro e w11 ⟨rfl, rfl⟩
              clear o0 o1 o2 o3 o4
              go_wp2
              go_loopw [18] (fun i wr2 => ∃ q : Nat, i = .int .i64 (q : Int) ∧ q ≤ kn ∧ wr2 = w10) (fun i _ => kn - (intOf i).toNat)
              case atStart => exact ⟨0, rfl, Nat.zero_le _, rfl⟩
              case round =>
                obtain ⟨q, rfl, hq, hwr⟩ := hrel
                have hwr' := hwr.symm
                clear hwr
                subst hwr'
                by_cases hqn : q < kn
                · have hq1 : decide ((q : Int) < (kn : Int)) = true := by simpa using hqn
                  obtain ⟨g, off, eA, hg, hcs⟩ := HR10.out.isI.cells (by omega)
                  obtain ⟨z, hz⟩ : ∃ z, ks[q]? = some z := ⟨_, List.getElem?_eq_getElem (by rw [RowI.len HR10.out]; exact hqn)⟩
                  have hc0 := hcs q z hz
                  subst eA
                  have hzk : (z == key) = false := beq_no (by rw [← Hkey.out]; exact Hf.out z (List.mem_of_getElem? hz))
                  clear hcs hz
                  go_wp2
                  go_roundw
                  case rel => exact ⟨q + 1, by go_num, by omega, by first | rfl | trivial⟩
                  case measure => simp [intOf]; omega
                · have hq1 : decide ((q : Int) < (kn : Int)) = false := by simpa using hqn
                  have hk1 : decide (key < 1) = false := by have := Hk1.out; rw [Hkey.out] at this; simpa using this
                  have hrow : RowI (w10.alloc (.cells #[.int .i64 key] 3)) kA kn kc ks := HR10.out.later (S := fun _ => False) (Mod.of_below ((Below.refl _ _).alloc (Nat.le_refl _) _)) (fun _ _ h => h)
                  have Hrow := Lib.hid hrow
                  clear hrow
                  go_wp2_with (at_builtin; refine wpList_append_row _ rfl (.tmp 104) (.tmp 106) 23 rfl Hrow.out 3 i0 (.int .i64 0) 8 Try.underlying23 Hi.out Hz0.out Hz1.out Hz2.out rfl (by decide) rfl ⟨w10.heap.size, 0, none⟩ 1 1 [.int .i64 key] rfl rfl ?c1 ?c2 (by decide) ?c3 ?c4 ?_)
                  case c1 =>
                    intro j u hj
                    match j, hj with
                    | 0, hj => simp at hj; subst hj; simp [Addr.add, go_sem]
                  case c2 => intro u hu; simp at hu; subst hu; rfl
                  case c3 => unfold maxLen; omega
                  case c4 => omega
                  intro x cap' w12 hr hm hb'
                  have b12 : Below w10.heap.size w10 (w10.alloc (.cells #[.int .i64 key] 3)) := (Below.refl _ _).alloc (Nat.le_refl _) _
                  have Hblk : Hid (∀ g, blk (.slice (some x) (kn + 1) cap') = some g → blk (.slice kA kn kc) = some g ∨ w10.heap.size ≤ g) := Lib.hid (fun g hg => by
                    rcases hb' with h | ⟨g', h, h2⟩
                    · exact .inl (by rw [← h]; exact hg)
                    · rw [h] at hg
                      obtain rfl := Option.some.inj hg
                      have := b12.size
                      exact .inr (by omega))
                  have hs10 : gv < w10.heap.size ∧ gw < w10.heap.size ∧ w.heap.size ≤ w10.heap.size := ⟨Hv10.out.lt, Hw10b.out.lt, HB10.out.size⟩
                  have HB12 : Hid (Below w.heap.size w w12) := Lib.hid (hm.below (bnext HB10.out b12) (Nat.le_trans hs10.2.2 b12.size) (fun i hi => (Hkg7.out i hi).2.1))
                  have Hv12 : Hid (BoxV w12 gv xv) := Lib.hid ((Hv10.out.below b12).kept hm (fun e => (Hkg7.out gv e).1 rfl))
                  have Hw12 : Hid (BoxV w12 gw x2) := Lib.hid ((Hw10b.out.below b12).kept hm (fun e => by have := (Hkg7.out gw e).2.2; omega))
                  have hwide : ∀ i, Sk gv gw (.slice (some x) (kn + 1) cap') i → Sk gv gw (.slice kA kn kc) i ∨ w10.heap.size ≤ i := fun i hi => by
                    rcases hi with h | h | h
                    · exact .inl (.inl h)
                    · exact .inl (.inr (.inl h))
                    · rcases Hblk.out i h with h | h
                      · exact .inl (.inr (.inr h))
                      · exact .inr h
                  have HL12 : Hid (Lst w12 (Sk gv gw (.slice (some x) (kn + 1) cap')) xv V) := Lib.hid ⟨((HL10.out.below b12).mod hm (fun i e => .inr (.inr e))).told, (HL10.out.wider hwide).away⟩
                  have HN12 : Hid (Lst w12 (Sk gv gw (.slice (some x) (kn + 1) cap')) x2 (joinV V o.node)) := Lib.hid ⟨((HN10.out.below b12).mod hm (fun i e => .inr (.inr e))).told, (HN10.out.wider hwide).away⟩
                  have HR12 : Hid (RowI w12 (some x) (kn + 1) cap' (ks ++ [key])) := Lib.hid (by
                    have e : ics ks ++ [Value.int .i64 key] = ics (ks ++ [key]) := by simp [ics]
                    rw [e] at hr
                    exact hr)
                  clear hr hm hb'
                  go_wp2
                  go_meet
                  case rel => exact ⟨_, x2, _, some x, kn + 1, cap', _, rfl, rfl, by omega, HB12, Hv12, Hw12, HL12, HN12, Hchg, HR12, Hky, Lib.hid (fun g hg => by
                    rcases Hblk.out g hg with h | h
                    · have := Hkg7.out g h
                      exact ⟨this.1, this.2.1, by omega⟩
                    · exact ⟨by omega, by omega, by omega⟩)⟩
            · have Hchg : Hid (Chg V (joinV V o.node) 0 false) := Lib.hid (by have := Hchg0.out; rw [Hjn.out] at this; rwa [decide_eq_false hjp] at this)
              have hp : decide (0 < jn) = false := by simpa using hjp

              clear hjp
              obtain ⟨o0, o1, o2, o3, o4⟩ := HO10.out.cells
              go_wp2_with fail
              refine (Key_any o.node jn _).mono ?_
              rw [Hkey.out]
              rintro e w11 ⟨rfl, rfl⟩
              clear o0 o1 o2 o3 o4
              go_wp2
              go_loopw [18] (fun i wr2 => ∃ q : Nat, i = .int .i64 (q : Int) ∧ q ≤ kn ∧ wr2 = w10) (fun i _ => kn - (intOf i).toNat)
              case atStart => exact ⟨0, rfl, Nat.zero_le _, rfl⟩
              case round =>
                obtain ⟨q, rfl, hq, hwr⟩ := hrel
                have hwr' := hwr.symm
                clear hwr
                subst hwr'
                by_cases hqn : q < kn
                · have hq1 : decide ((q : Int) < (kn : Int)) = true := by simpa using hqn
                  go_wp2
                  go_roundw
                  case rel => exact ⟨q + 1, by go_num, by omega, by first | rfl | trivial⟩
                  case measure => simp [intOf]; omega
                · have hq1 : decide ((q : Int) < (kn : Int)) = false := by simpa using hqn

                  have hrow : RowI (w10.alloc (.cells #[.int .i64 key] 3)) kA kn kc ks := HR10.out.later (S := fun _ => False) (Mod.of_below ((Below.refl _ _).alloc (Nat.le_refl _) _)) (fun _ _ h => h)
                  have Hrow := Lib.hid hrow
                  clear hrow
                  go_wp2_with (at_builtin; refine wpList_append_row _ rfl (.tmp 104) (.tmp 106) 23 rfl Hrow.out 3 i0 (.int .i64 0) 8 Try.underlying23 Hi.out Hz0.out Hz1.out Hz2.out rfl (by decide) rfl ⟨w10.heap.size, 0, none⟩ 1 1 [.int .i64 key] rfl rfl ?c1 ?c2 (by decide) ?c3 ?c4 ?_)
                  case c1 =>
                    intro j u hj
                    match j, hj with
                    | 0, hj => simp at hj; subst hj; simp [Addr.add, go_sem]
                  case c2 => intro u hu; simp at hu; subst hu; rfl
                  case c3 => unfold maxLen; omega
                  case c4 => omega
                  intro x cap' w12 hr hm hb'
                  have b12 : Below w10.heap.size w10 (w10.alloc (.cells #[.int .i64 key] 3)) := (Below.refl _ _).alloc (Nat.le_refl _) _
                  have Hblk : Hid (∀ g, blk (.slice (some x) (kn + 1) cap') = some g → blk (.slice kA kn kc) = some g ∨ w10.heap.size ≤ g) := Lib.hid (fun g hg => by
                    rcases hb' with h | ⟨g', h, h2⟩
                    · exact .inl (by rw [← h]; exact hg)
                    · rw [h] at hg
                      obtain rfl := Option.some.inj hg
                      have := b12.size
                      exact .inr (by omega))
                  have hs10 : gv < w10.heap.size ∧ gw < w10.heap.size ∧ w.heap.size ≤ w10.heap.size := ⟨Hv10.out.lt, Hw10b.out.lt, HB10.out.size⟩
                  have HB12 : Hid (Below w.heap.size w w12) := Lib.hid (hm.below (bnext HB10.out b12) (Nat.le_trans hs10.2.2 b12.size) (fun i hi => (Hkg7.out i hi).2.1))
                  have Hv12 : Hid (BoxV w12 gv xv) := Lib.hid ((Hv10.out.below b12).kept hm (fun e => (Hkg7.out gv e).1 rfl))
                  have Hw12 : Hid (BoxV w12 gw x2) := Lib.hid ((Hw10b.out.below b12).kept hm (fun e => by have := (Hkg7.out gw e).2.2; omega))
                  have hwide : ∀ i, Sk gv gw (.slice (some x) (kn + 1) cap') i → Sk gv gw (.slice kA kn kc) i ∨ w10.heap.size ≤ i := fun i hi => by
                    rcases hi with h | h | h
                    · exact .inl (.inl h)
                    · exact .inl (.inr (.inl h))
                    · rcases Hblk.out i h with h | h
                      · exact .inl (.inr (.inr h))
                      · exact .inr h
                  have HL12 : Hid (Lst w12 (Sk gv gw (.slice (some x) (kn + 1) cap')) xv V) := Lib.hid ⟨((HL10.out.below b12).mod hm (fun i e => .inr (.inr e))).told, (HL10.out.wider hwide).away⟩
                  have HN12 : Hid (Lst w12 (Sk gv gw (.slice (some x) (kn + 1) cap')) x2 (joinV V o.node)) := Lib.hid ⟨((HN10.out.below b12).mod hm (fun i e => .inr (.inr e))).told, (HN10.out.wider hwide).away⟩
                  have HR12 : Hid (RowI w12 (some x) (kn + 1) cap' (ks ++ [key])) := Lib.hid (by
                    have e : ics ks ++ [Value.int .i64 key] = ics (ks ++ [key]) := by simp [ics]
                    rw [e] at hr
                    exact hr)
                  clear hr hm hb'
                  go_wp2
                  go_meet
                  case rel => exact ⟨_, x2, _, some x, kn + 1, cap', _, rfl, rfl, by omega, HB12, Hv12, Hw12, HL12, HN12, Hchg, HR12, Hky, Lib.hid (fun g hg => by
                    rcases Hblk.out g hg with h | h
                    · have := Hkg7.out g h
                      exact ⟨this.1, this.2.1, by omega⟩
                    · exact ⟨by omega, by omega, by omega⟩)⟩
        · as_aux_lemma =>
            obtain ⟨is, His⟩ : ∃ is, Hid (leaveB V o.by_ o.node = is) := ⟨_, Lib.hid rfl⟩
            have Hky : Hid (∀ k ∈ ks, keyIn (leaveV V o.by_ o.node) k) := Lib.hid (keys_same (leave_incs V o.by_ o.node) HKy.out)
            have Hchg : Hid (Chg V (leaveV V o.by_ o.node) 1 is) := Lib.hid (by rw [← His.out]; exact chg_leave HK.out o.by_ o.node)
            have HO7' := HO7.out
            obtain ⟨o0, o1, o2, o3, o4⟩ := HO7'.cells
            clear HO7'
            obtain ⟨v0, v1, v2, v3, v4⟩ := Hv7.out.cells
            go_wp2_with fail
            refine (Leave_any w7 xv V HL7.out.isV o.by_ o.node (ok_sm HK.out)).mono ?_
            rw [His.out]
            rintro e w8 ⟨x2, rfl, hT8, hb8⟩
            have HT8 := Lib.hid hT8
            have Hb8 := Lib.hid hb8
            clear hT8 hb8
            clear v0 v1 v2 v3 v4 o0 o1 o2 o3 o4
            go_upto_region 32 with (fail)
            obtain ⟨w9, H_w9⟩ : ∃ w9, Hid (w8.alloc (.cells (vC x2) 25) = w9) := ⟨_, Lib.hid rfl⟩
            obtain ⟨gx, H_gx⟩ : ∃ gx, Hid (w8.heap.size = gx) := ⟨_, Lib.hid rfl⟩
            have HX_gx : Hid (BoxV w9 gx x2) := Lib.hid (by rw [← H_w9.out, ← H_gx.out]; exact BoxV.new w8 x2)
            have HL_w9 : Hid (Below w8.heap.size w8 w9) := Lib.hid (by rw [← H_w9.out]; exact (Below.refl _ _).alloc (Nat.le_refl _) _)
            rw [show w8.alloc (.cells #[.int .i64 x2.nodes, .int .i64 x2.epoch, .slice x2.mA x2.mn x2.mc, .slice x2.dA x2.dn x2.dc, .slice x2.iA x2.ir x2.ic] 25) = w9 from H_w9.out]
            try rw [H_gx.out]
            have Hb9 : Hid (Below w7.heap.size w7 w9) := Lib.hid (bnext Hb8.out HL_w9.out)
            have HB9 : Hid (Below w.heap.size w w9) := Lib.hid (bnext HB7.out Hb9.out)
            have Hv9 := Lib.hid (Hv7.out.below Hb9.out)
            have Hw9 := Lib.hid (HX_gw.out.below Hb9.out)
            have HO9 := Lib.hid (HO7.out.below Hb9.out)
            have HN9 : Hid (Lst w9 (Sk gv gw (.slice kA kn kc)) x2 (leaveV V o.by_ o.node)) := Lib.hid (Lst.of (HT8.out.below HL_w9.out) (fun i hi => by
              have h := Hgw.out
              rcases hi with h1 | h1 | h1
              · omega
              · omega
              · have := (Hkg7.out i h1).2.2; omega))
            have hgx : gw < gx := by have := Hgw.out; have := Hb8.out.size; have := H_gx.out; omega
            obtain ⟨w10, Hw10⟩ : ∃ w10, Hid (setV w9 gw x2 = w10) := ⟨_, Lib.hid rfl⟩
            have m10 : Mod (· = gw) w9 w10 := by rw [← Hw10.out]; exact setV_mod w9 gw x2
            have HB10 : Hid (Below w.heap.size w w10) := Lib.hid (bmod HB9.out m10 (by have := Hgw.out; omega))
            have Hv10 : Hid (BoxV w10 gv xv) := Lib.hid (Hv9.out.kept m10 (by have := Hgw.out; omega))
            have HO10 : Hid (BoxO w10 go o) := Lib.hid ⟨(m10.block go HO9.out.lt (by have := Hgw.out; omega)).trans HO9.out.blk⟩
            have Hx10 : Hid (BoxV w10 gx x2) := Lib.hid (HX_gx.out.kept m10 (by omega))
            have Hw10b : Hid (BoxV w10 gw x2) := Lib.hid (by rw [← Hw10.out]; exact setV_box Hw9.out x2)
            have HL10 : Hid (Lst w10 (Sk gv gw (.slice kA kn kc)) xv V) := Lib.hid ((HL7.out.below Hb9.out).mod m10 (fun i e => .inr (.inl e)))
            have HN10 : Hid (Lst w10 (Sk gv gw (.slice kA kn kc)) x2 (leaveV V o.by_ o.node)) := Lib.hid (HN9.out.mod m10 (fun i e => .inr (.inl e)))
            have HR10 : Hid (RowI w10 kA kn kc ks) := Lib.hid ((HR7.out.later (S := fun _ => False) (Mod.of_below Hb9.out) (fun _ _ h => h)).later m10 (fun g hg e => by have := (Hkg7.out g hg).2.2; omega))
            clear m10
            obtain ⟨v0, v1, v2, v3, v4⟩ := HX_gx.out.cells
            obtain ⟨y0, y1, y2, y3, y4⟩ := Hw9.out.cells
            have f0 := Hw9.out.free 0
            have f1 := Hw9.out.free 1
            have f2 := Hw9.out.free 2
            have f3 := Hw9.out.free 3
            have f4 := Hw9.out.free 4
            have hgne : ¬ gx = gw := by omega
            have hgne' : ¬ gw = gx := by omega
            go_upto_region 33 with (fail)
            rw [show ((((w9.setCell ⟨gw, 0, none⟩ (.int .i64 x2.nodes)).setCell ⟨gw, 1, none⟩ (.int .i64 x2.epoch)).setCell ⟨gw, 2, none⟩ (.slice x2.mA x2.mn x2.mc)).setCell ⟨gw, 3, none⟩ (.slice x2.dA x2.dn x2.dc)).setCell ⟨gw, 4, none⟩ (.slice x2.iA x2.ir x2.ic) = w10 from Hw10.out]
            clear v0 v1 v2 v3 v4 y0 y1 y2 y3 y4 f0 f1 f2 f3 f4
            clear hgne hgne'
            cases is with
            | false =>
              go_wp2
              go_meet
              case rel => exact ⟨_, x2, _, kA, kn, kc, ks, rfl, rfl, by omega, HB10, Hv10, Hw10b, HL10, HN10, Hchg, HR10, Hky, Lib.hid (fun g hg => ⟨(Hkg7.out g hg).1, (Hkg7.out g hg).2.1, by have := (Hkg7.out g hg).2.2; omega⟩)⟩
            | true =>
              have Hsaid := Lib.hid (leave_said HK.out His.out)
              have e1 : decide (2 * (x2.mn : Int) ≤ x2.nodes) = false := by
                have h1 := Hsaid.out.1
                have h2 := RowM.len HN10.out.told.mem
                have h3 := HN10.out.told.nodes
                simp
                omega
              have e2 : ((x2.dn : Int) != (xv.dn : Int) + 1) = false := bne_no (by
                have h1 := Hsaid.out.2.2
                have h2 := RowM.len HN10.out.told.dead
                have h3 := RowM.len HL10.out.told.dead
                omega)
              have hm8 : x2.mn ≤ 8 := by have h2 := RowM.len HN10.out.told.mem; have := ok_len Hchg.out.ok; have := Hchg.out.ok.n8; omega
              have hd20 : xv.dn ≤ 20 := by have h3 := RowM.len HL10.out.told.dead; have := HK.out.dl; omega
              obtain ⟨v0, v1, v2, v3, v4⟩ := Hv10.out.cells
              obtain ⟨y0, y1, y2, y3, y4⟩ := Hx10.out.cells
              obtain ⟨o0, o1, o2, o3, o4⟩ := HO10.out.cells
              go_wp2_with fail
              clear v0 v1 v2 v3 v4 y0 y1 y2 y3 y4 o0 o1 o2 o3 o4
              refine (Inc_any w10 x2 _ HN10.out.isV o.node).mono ?_
              rw [Hsaid.out.2.1]
              rintro e w11 ⟨rfl, hb11⟩
              have HB11 : Hid (Below w.heap.size w w11) := Lib.hid (bnext HB10.out hb11)
              have Hv11 := Lib.hid (Hv10.out.below hb11)
              have Hw11 := Lib.hid (Hw10b.out.below hb11)
              have Hx11 := Lib.hid (Hx10.out.below hb11)
              have HL11 := Lib.hid (HL10.out.below hb11)
              have HN11 := Lib.hid (HN10.out.below hb11)
              have HR11 : Hid (RowI w11 kA kn kc ks) := Lib.hid (HR10.out.later (S := fun _ => False) (Mod.of_below hb11) (fun _ _ h => h))
              clear hb11
              obtain ⟨v0, v1, v2, v3, v4⟩ := Hv11.out.cells
              obtain ⟨y0, y1, y2, y3, y4⟩ := Hx11.out.cells
              go_wp2
              clear v0 v1 v2 v3 v4 y0 y1 y2 y3 y4
              go_meet
              case rel => exact ⟨_, x2, _, kA, kn, kc, ks, rfl, rfl, by omega, HB11, Hv11, Hw11, HL11, HN11, Hchg, HR11, Hky, Lib.hid (fun g hg => ⟨(Hkg7.out g hg).1, (Hkg7.out g hg).2.1, by have := (Hkg7.out g hg).2.2; omega⟩)⟩
        · as_aux_lemma =>
            have Hky : Hid (∀ k ∈ ks, keyIn (readyV V nd ic) k) := Lib.hid (keys_same (chg_ready HK.out nd ic).2 HKy.out)
            have Hchg : Hid (Chg V (readyV V nd ic) 2 false) := Lib.hid (chg_ready HK.out nd ic).1
            have HO7' := HO7.out
            obtain ⟨o0, o1, o2, o3, o4⟩ := HO7'.cells
            clear HO7'
            obtain ⟨v0, v1, v2, v3, v4⟩ := Hv7.out.cells
            go_wp2_with fail
            refine (Ready_any w7 xv V HL7.out.isV nd ic (ok_sm HK.out)).mono ?_
            rintro e w8 ⟨x2, rfl, hT8, hb8⟩
            have HT8 := Lib.hid hT8
            have Hb8 := Lib.hid hb8
            clear hT8 hb8
            clear v0 v1 v2 v3 v4 o0 o1 o2 o3 o4
            go_upto_region 38 with (fail)
            obtain ⟨w9, H_w9⟩ : ∃ w9, Hid (w8.alloc (.cells (vC x2) 25) = w9) := ⟨_, Lib.hid rfl⟩
            obtain ⟨gx, H_gx⟩ : ∃ gx, Hid (w8.heap.size = gx) := ⟨_, Lib.hid rfl⟩
            have HX_gx : Hid (BoxV w9 gx x2) := Lib.hid (by rw [← H_w9.out, ← H_gx.out]; exact BoxV.new w8 x2)
            have HL_w9 : Hid (Below w8.heap.size w8 w9) := Lib.hid (by rw [← H_w9.out]; exact (Below.refl _ _).alloc (Nat.le_refl _) _)
            rw [show w8.alloc (.cells #[.int .i64 x2.nodes, .int .i64 x2.epoch, .slice x2.mA x2.mn x2.mc, .slice x2.dA x2.dn x2.dc, .slice x2.iA x2.ir x2.ic] 25) = w9 from H_w9.out]
            try rw [H_gx.out]
            have Hb9 : Hid (Below w7.heap.size w7 w9) := Lib.hid (bnext Hb8.out HL_w9.out)
            have HB9 : Hid (Below w.heap.size w w9) := Lib.hid (bnext HB7.out Hb9.out)
            have Hv9 := Lib.hid (Hv7.out.below Hb9.out)
            have Hw9 := Lib.hid (HX_gw.out.below Hb9.out)
            have HO9 := Lib.hid (HO7.out.below Hb9.out)
            have HN9 : Hid (Lst w9 (Sk gv gw (.slice kA kn kc)) x2 (readyV V nd ic)) := Lib.hid (Lst.of (HT8.out.below HL_w9.out) (fun i hi => by
              have h := Hgw.out
              rcases hi with h1 | h1 | h1
              · omega
              · omega
              · have := (Hkg7.out i h1).2.2; omega))
            have hgx : gw < gx := by have := Hgw.out; have := Hb8.out.size; have := H_gx.out; omega
            obtain ⟨w10, Hw10⟩ : ∃ w10, Hid (setV w9 gw x2 = w10) := ⟨_, Lib.hid rfl⟩
            have m10 : Mod (· = gw) w9 w10 := by rw [← Hw10.out]; exact setV_mod w9 gw x2
            have HB10 : Hid (Below w.heap.size w w10) := Lib.hid (bmod HB9.out m10 (by have := Hgw.out; omega))
            have Hv10 : Hid (BoxV w10 gv xv) := Lib.hid (Hv9.out.kept m10 (by have := Hgw.out; omega))
            have HO10 : Hid (BoxO w10 go o) := Lib.hid ⟨(m10.block go HO9.out.lt (by have := Hgw.out; omega)).trans HO9.out.blk⟩
            have Hx10 : Hid (BoxV w10 gx x2) := Lib.hid (HX_gx.out.kept m10 (by omega))
            have Hw10b : Hid (BoxV w10 gw x2) := Lib.hid (by rw [← Hw10.out]; exact setV_box Hw9.out x2)
            have HL10 : Hid (Lst w10 (Sk gv gw (.slice kA kn kc)) xv V) := Lib.hid ((HL7.out.below Hb9.out).mod m10 (fun i e => .inr (.inl e)))
            have HN10 : Hid (Lst w10 (Sk gv gw (.slice kA kn kc)) x2 (readyV V nd ic)) := Lib.hid (HN9.out.mod m10 (fun i e => .inr (.inl e)))
            have HR10 : Hid (RowI w10 kA kn kc ks) := Lib.hid ((HR7.out.later (S := fun _ => False) (Mod.of_below Hb9.out) (fun _ _ h => h)).later m10 (fun g hg e => by have := (Hkg7.out g hg).2.2; omega))
            clear m10
            obtain ⟨v0, v1, v2, v3, v4⟩ := HX_gx.out.cells
            obtain ⟨y0, y1, y2, y3, y4⟩ := Hw9.out.cells
            have f0 := Hw9.out.free 0
            have f1 := Hw9.out.free 1
            have f2 := Hw9.out.free 2
            have f3 := Hw9.out.free 3
            have f4 := Hw9.out.free 4
            have hgne : ¬ gx = gw := by omega
            have hgne' : ¬ gw = gx := by omega
            go_wp2
            rw [show ((((w9.setCell ⟨gw, 0, none⟩ (.int .i64 x2.nodes)).setCell ⟨gw, 1, none⟩ (.int .i64 x2.epoch)).setCell ⟨gw, 2, none⟩ (.slice x2.mA x2.mn x2.mc)).setCell ⟨gw, 3, none⟩ (.slice x2.dA x2.dn x2.dc)).setCell ⟨gw, 4, none⟩ (.slice x2.iA x2.ir x2.ic) = w10 from Hw10.out]
            clear v0 v1 v2 v3 v4 y0 y1 y2 y3 y4 f0 f1 f2 f3 f4
            clear hgne hgne'
            go_meet
            case rel => exact ⟨_, x2, _, kA, kn, kc, ks, rfl, rfl, by omega, HB10, Hv10, Hw10b, HL10, HN10, Hchg, HR10, Hky, Lib.hid (fun g hg => ⟨(Hkg7.out g hg).1, (Hkg7.out g hg).2.1, by have := (Hkg7.out g hg).2.2; omega⟩)⟩
        · as_aux_lemma =>
            have Hky : Hid (∀ k ∈ ks, keyIn (buryV V nd ic) k) := Lib.hid (keys_same (chg_bury HK.out nd ic).2 HKy.out)
            have Hchg : Hid (Chg V (buryV V nd ic) 3 false) := Lib.hid (chg_bury HK.out nd ic).1
            have HO7' := HO7.out
            obtain ⟨o0, o1, o2, o3, o4⟩ := HO7'.cells
            clear HO7'
            obtain ⟨v0, v1, v2, v3, v4⟩ := Hv7.out.cells
            go_wp2_with fail
            refine (Bury_any w7 xv V HL7.out.isV nd ic (ok_sm HK.out)).mono ?_
            rintro e w8 ⟨x2, rfl, hT8, hb8⟩
            have HT8 := Lib.hid hT8
            have Hb8 := Lib.hid hb8
            clear hT8 hb8
            clear v0 v1 v2 v3 v4 o0 o1 o2 o3 o4
            go_upto_region 16 with (fail)
            obtain ⟨w9, H_w9⟩ : ∃ w9, Hid (w8.alloc (.cells (vC x2) 25) = w9) := ⟨_, Lib.hid rfl⟩
            obtain ⟨gx, H_gx⟩ : ∃ gx, Hid (w8.heap.size = gx) := ⟨_, Lib.hid rfl⟩
            have HX_gx : Hid (BoxV w9 gx x2) := Lib.hid (by rw [← H_w9.out, ← H_gx.out]; exact BoxV.new w8 x2)
            have HL_w9 : Hid (Below w8.heap.size w8 w9) := Lib.hid (by rw [← H_w9.out]; exact (Below.refl _ _).alloc (Nat.le_refl _) _)
            rw [show w8.alloc (.cells #[.int .i64 x2.nodes, .int .i64 x2.epoch, .slice x2.mA x2.mn x2.mc, .slice x2.dA x2.dn x2.dc, .slice x2.iA x2.ir x2.ic] 25) = w9 from H_w9.out]
            try rw [H_gx.out]
            have Hb9 : Hid (Below w7.heap.size w7 w9) := Lib.hid (bnext Hb8.out HL_w9.out)
            have HB9 : Hid (Below w.heap.size w w9) := Lib.hid (bnext HB7.out Hb9.out)
            have Hv9 := Lib.hid (Hv7.out.below Hb9.out)
            have Hw9 := Lib.hid (HX_gw.out.below Hb9.out)
            have HO9 := Lib.hid (HO7.out.below Hb9.out)
            have HN9 : Hid (Lst w9 (Sk gv gw (.slice kA kn kc)) x2 (buryV V nd ic)) := Lib.hid (Lst.of (HT8.out.below HL_w9.out) (fun i hi => by
              have h := Hgw.out
              rcases hi with h1 | h1 | h1
              · omega
              · omega
              · have := (Hkg7.out i h1).2.2; omega))
            have hgx : gw < gx := by have := Hgw.out; have := Hb8.out.size; have := H_gx.out; omega
            obtain ⟨w10, Hw10⟩ : ∃ w10, Hid (setV w9 gw x2 = w10) := ⟨_, Lib.hid rfl⟩
            have m10 : Mod (· = gw) w9 w10 := by rw [← Hw10.out]; exact setV_mod w9 gw x2
            have HB10 : Hid (Below w.heap.size w w10) := Lib.hid (bmod HB9.out m10 (by have := Hgw.out; omega))
            have Hv10 : Hid (BoxV w10 gv xv) := Lib.hid (Hv9.out.kept m10 (by have := Hgw.out; omega))
            have HO10 : Hid (BoxO w10 go o) := Lib.hid ⟨(m10.block go HO9.out.lt (by have := Hgw.out; omega)).trans HO9.out.blk⟩
            have Hx10 : Hid (BoxV w10 gx x2) := Lib.hid (HX_gx.out.kept m10 (by omega))
            have Hw10b : Hid (BoxV w10 gw x2) := Lib.hid (by rw [← Hw10.out]; exact setV_box Hw9.out x2)
            have HL10 : Hid (Lst w10 (Sk gv gw (.slice kA kn kc)) xv V) := Lib.hid ((HL7.out.below Hb9.out).mod m10 (fun i e => .inr (.inl e)))
            have HN10 : Hid (Lst w10 (Sk gv gw (.slice kA kn kc)) x2 (buryV V nd ic)) := Lib.hid (HN9.out.mod m10 (fun i e => .inr (.inl e)))
            have HR10 : Hid (RowI w10 kA kn kc ks) := Lib.hid ((HR7.out.later (S := fun _ => False) (Mod.of_below Hb9.out) (fun _ _ h => h)).later m10 (fun g hg e => by have := (Hkg7.out g hg).2.2; omega))
            clear m10
            obtain ⟨v0, v1, v2, v3, v4⟩ := HX_gx.out.cells
            obtain ⟨y0, y1, y2, y3, y4⟩ := Hw9.out.cells
            have f0 := Hw9.out.free 0
            have f1 := Hw9.out.free 1
            have f2 := Hw9.out.free 2
            have f3 := Hw9.out.free 3
            have f4 := Hw9.out.free 4
            have hgne : ¬ gx = gw := by omega
            have hgne' : ¬ gw = gx := by omega
            go_wp2
            rw [show ((((w9.setCell ⟨gw, 0, none⟩ (.int .i64 x2.nodes)).setCell ⟨gw, 1, none⟩ (.int .i64 x2.epoch)).setCell ⟨gw, 2, none⟩ (.slice x2.mA x2.mn x2.mc)).setCell ⟨gw, 3, none⟩ (.slice x2.dA x2.dn x2.dc)).setCell ⟨gw, 4, none⟩ (.slice x2.iA x2.ir x2.ic) = w10 from Hw10.out]
            clear v0 v1 v2 v3 v4 y0 y1 y2 y3 y4 f0 f1 f2 f3 f4
            clear hgne hgne'
            go_meet
            case rel => exact ⟨_, x2, _, kA, kn, kc, ks, rfl, rfl, by omega, HB10, Hv10, Hw10b, HL10, HN10, Hchg, HR10, Hky, Lib.hid (fun g hg => ⟨(Hkg7.out g hg).1, (Hkg7.out g hg).2.1, by have := (Hkg7.out g hg).2.2; omega⟩)⟩
      case rest =>
      clear HL7 HR7 Hkg7 HB7 Hb7 HO7 Hv7
      clear HB HL HR HKy Hkg HB5 HB6 Hb6 HL5
      obtain ⟨d, x', V', kA', kn', kc', ks', rfl, rfl, hkn', HB, Hv, Hw, HL, HN, HC, HR, HKy, Hkg⟩ := hcut
      go_upto_region 39 with (fail)
      go_cut [190] (fun s wx => s = .bool false ∧ Hid (Below w.heap.size w wx) ∧ Hid (BoxV wx gv xv) ∧ Hid (BoxV wx gw x') ∧ Hid (Lst wx (Sk gv gw (.slice kA' kn' kc')) x' V') ∧ Hid (RowI wx kA' kn' kc' ks'))
      case first =>
        as_aux_lemma =>
          obtain ⟨v0, v1, v2, v3, v4⟩ := Hv.out.cells
          obtain ⟨y0, y1, y2, y3, y4⟩ := Hw.out.cells
          by_cases hk2 : kk < 2
          · cases d with
            | true =>
              have k1 : decide ((kk : Int) < 2) = true := by simp; omega
              have k2 : decide (1 < (kk : Int)) = false := by simp; omega
              have e1 : (x'.epoch != xv.epoch + 1) = false := bne_no (by have := HC.out.ep1 hk2 rfl; have := HN.out.told.epoch; have := HL.out.told.epoch; omega)
              have hxe : 0 ≤ xv.epoch ∧ xv.epoch ≤ 1099511627776 := by have := HL.out.told.epoch; have := HK.out.e0; have := HK.out.e1; omega
              go_wp2_with fail
              refine (Check_any _ x' V' HN.out.isV).mono ?_
              rw [chkE_ok HC.out.ok]
              rintro e w12 ⟨rfl, hb12⟩
              have HB12 : Hid (Below w.heap.size w w12) := Lib.hid (bnext HB.out hb12)
              have Hv12 := Lib.hid (Hv.out.below hb12)
              have Hw12 := Lib.hid (Hw.out.below hb12)
              have HN12 := Lib.hid (HN.out.below hb12)
              have HR12 : Hid (RowI w12 kA' kn' kc' ks') := Lib.hid (HR.out.later (S := fun _ => False) (Mod.of_below hb12) (fun _ _ h => h))
              clear hb12 v0 v1 v2 v3 v4 y0 y1 y2 y3 y4
              obtain ⟨v0, v1, v2, v3, v4⟩ := Hv12.out.cells
              obtain ⟨y0, y1, y2, y3, y4⟩ := Hw12.out.cells
              have hz : ((0 : Int) != 0) = false := rfl
              go_wp2
              clear v0 v1 v2 v3 v4 y0 y1 y2 y3 y4
              go_meet
              case rel => exact ⟨rfl, HB12, Hv12, Hw12, HN12, HR12⟩
            | false =>
              have k1 : decide ((kk : Int) < 2) = true := by simp; omega
              have k2 : decide (1 < (kk : Int)) = false := by simp; omega
              have e1 : (x'.epoch != xv.epoch) = false := bne_no (by have := HC.out.ep0 (by simp); have := HN.out.told.epoch; have := HL.out.told.epoch; omega)
              have hxe : 0 ≤ xv.epoch ∧ xv.epoch ≤ 1099511627776 := by have := HL.out.told.epoch; have := HK.out.e0; have := HK.out.e1; omega
              go_wp2_with fail
              refine (Check_any _ x' V' HN.out.isV).mono ?_
              rw [chkE_ok HC.out.ok]
              rintro e w12 ⟨rfl, hb12⟩
              have HB12 : Hid (Below w.heap.size w w12) := Lib.hid (bnext HB.out hb12)
              have Hv12 := Lib.hid (Hv.out.below hb12)
              have Hw12 := Lib.hid (Hw.out.below hb12)
              have HN12 := Lib.hid (HN.out.below hb12)
              have HR12 : Hid (RowI w12 kA' kn' kc' ks') := Lib.hid (HR.out.later (S := fun _ => False) (Mod.of_below hb12) (fun _ _ h => h))
              clear hb12 v0 v1 v2 v3 v4 y0 y1 y2 y3 y4
              obtain ⟨v0, v1, v2, v3, v4⟩ := Hv12.out.cells
              obtain ⟨y0, y1, y2, y3, y4⟩ := Hw12.out.cells
              have hz : ((0 : Int) != 0) = false := rfl
              go_wp2
              clear v0 v1 v2 v3 v4 y0 y1 y2 y3 y4
              go_meet
              case rel => exact ⟨rfl, HB12, Hv12, Hw12, HN12, HR12⟩
          · cases d with
            | true =>
              have k1 : decide ((kk : Int) < 2) = false := by simp; omega
              have k2 : decide (1 < (kk : Int)) = true := by simp; omega
              have e1 : (x'.epoch != xv.epoch) = false := bne_no (by have := HC.out.ep0 (by omega); have := HN.out.told.epoch; have := HL.out.told.epoch; omega)
              have hxe : 0 ≤ xv.epoch ∧ xv.epoch ≤ 1099511627776 := by have := HL.out.told.epoch; have := HK.out.e0; have := HK.out.e1; omega
              go_wp2_with fail
              refine (Check_any _ x' V' HN.out.isV).mono ?_
              rw [chkE_ok HC.out.ok]
              rintro e w12 ⟨rfl, hb12⟩
              have HB12 : Hid (Below w.heap.size w w12) := Lib.hid (bnext HB.out hb12)
              have Hv12 := Lib.hid (Hv.out.below hb12)
              have Hw12 := Lib.hid (Hw.out.below hb12)
              have HN12 := Lib.hid (HN.out.below hb12)
              have HR12 : Hid (RowI w12 kA' kn' kc' ks') := Lib.hid (HR.out.later (S := fun _ => False) (Mod.of_below hb12) (fun _ _ h => h))
              clear hb12 v0 v1 v2 v3 v4 y0 y1 y2 y3 y4
              obtain ⟨v0, v1, v2, v3, v4⟩ := Hv12.out.cells
              obtain ⟨y0, y1, y2, y3, y4⟩ := Hw12.out.cells
              have hz : ((0 : Int) != 0) = false := rfl
              go_wp2
              clear v0 v1 v2 v3 v4 y0 y1 y2 y3 y4
              go_meet
              case rel => exact ⟨rfl, HB12, Hv12, Hw12, HN12, HR12⟩
            | false =>
              have k1 : decide ((kk : Int) < 2) = false := by simp; omega
              have k2 : decide (1 < (kk : Int)) = true := by simp; omega
              have e1 : (x'.epoch != xv.epoch) = false := bne_no (by have := HC.out.ep0 (by omega); have := HN.out.told.epoch; have := HL.out.told.epoch; omega)
              have hxe : 0 ≤ xv.epoch ∧ xv.epoch ≤ 1099511627776 := by have := HL.out.told.epoch; have := HK.out.e0; have := HK.out.e1; omega
              go_wp2_with fail
              refine (Check_any _ x' V' HN.out.isV).mono ?_
              rw [chkE_ok HC.out.ok]
              rintro e w12 ⟨rfl, hb12⟩
              have HB12 : Hid (Below w.heap.size w w12) := Lib.hid (bnext HB.out hb12)
              have Hv12 := Lib.hid (Hv.out.below hb12)
              have Hw12 := Lib.hid (Hw.out.below hb12)
              have HN12 := Lib.hid (HN.out.below hb12)
              have HR12 : Hid (RowI w12 kA' kn' kc' ks') := Lib.hid (HR.out.later (S := fun _ => False) (Mod.of_below hb12) (fun _ _ h => h))
              clear hb12 v0 v1 v2 v3 v4 y0 y1 y2 y3 y4
              obtain ⟨v0, v1, v2, v3, v4⟩ := Hv12.out.cells
              obtain ⟨y0, y1, y2, y3, y4⟩ := Hw12.out.cells
              have hz : ((0 : Int) != 0) = false := rfl
              go_wp2
              clear v0 v1 v2 v3 v4 y0 y1 y2 y3 y4
              go_meet
              case rel => exact ⟨rfl, HB12, Hv12, Hw12, HN12, HR12⟩
      case rest =>
      clear HB Hv Hw HN HR HL
      obtain ⟨rfl, HB, Hv, Hw, HN, HR⟩ := hcut
      obtain ⟨w13, hw13⟩ : ∃ w13 : World, w13 = wc := ⟨_, rfl⟩
      subst hw13
      have hmn8 : x'.mn ≤ 8 := by have := ok_len HC.out.ok; have := HC.out.ok.n8; have := RowM.len HN.out.told.mem; omega
      go_wp2
      go_loopw [25] (fun i wr2 => ∃ q : Nat, i = .int .i64 (q : Int) ∧ q ≤ x'.mn ∧ wr2 = w13) (fun i _ => x'.mn - (intOf i).toNat)
      case atStart => exact ⟨0, rfl, Nat.zero_le _, rfl⟩
      case round =>
        obtain ⟨q, rfl, hq, hwr⟩ := hrel
        have hwr' := hwr.symm
        clear hwr
        subst hwr'
        obtain ⟨y0, y1, y2, y3, y4⟩ := Hw.out.cells
        by_cases hqn : q < x'.mn
        · have hq1 : decide ((q : Int) < (x'.mn : Int)) = true := by simpa using hqn
          cases d with
          | true =>
            obtain ⟨g, off, eA, hg, hcs⟩ := HN.out.isV.mem.cells (by omega)
            obtain ⟨m, hm0⟩ : ∃ m, V'.mem[q]? = some m := ⟨_, List.getElem?_eq_getElem (by rw [RowM.len HN.out.told.mem]; exact hqn)⟩
            have c2 := (hcs q m hm0).2.2
            rw [HC.out.un rfl m (List.mem_of_getElem? hm0)] at c2
            have hix := fun w => idxM (n := x'.mn) (c := x'.mc) eA hqn w
            clear hcs hm0 eA
            go_wp2
            go_roundw
            case rel => exact ⟨q + 1, by go_num, by omega, by first | rfl | trivial⟩
            case measure => simp [intOf]; omega
          | false =>
            go_wp2
            go_roundw
            case rel => exact ⟨q + 1, by go_num, by omega, by first | rfl | trivial⟩
            case measure => simp [intOf]; omega
        · have hq1 : decide ((q : Int) < (x'.mn : Int)) = false := by simpa using hqn
          have hm8 : V'.mem.length ≤ 1000 := by have := ok_len HC.out.ok; have := HC.out.ok.n8; omega
          obtain ⟨ob, Hob⟩ : ∃ ob, Hid (openB V' = ob) := ⟨_, Lib.hid rfl⟩
          go_upto_region 46 with (fail)
          clear y0 y1 y2 y3 y4
          go_cut [213] (fun s wx => s = .bool false ∧ Hid (Below w.heap.size w wx) ∧ Hid (BoxV wx gv xv) ∧ Hid (BoxV wx gw x') ∧ Hid (Lst wx (Sk gv gw (.slice kA' kn' kc')) x' V') ∧ Hid (RowI wx kA' kn' kc' ks'))
          case first =>
            as_aux_lemma =>
              obtain ⟨y0, y1, y2, y3, y4⟩ := Hw.out.cells
              go_wp2_with fail
              clear y0 y1 y2 y3 y4
              refine (Open_any _ x' V' HN.out.isV hm8).mono ?_
              rw [Hob.out]
              rintro e w14 ⟨rfl, hb14⟩
              have HB14 : Hid (Below w.heap.size w w14) := Lib.hid (bnext HB.out hb14)
              have Hv14 := Lib.hid (Hv.out.below hb14)
              have Hw14 := Lib.hid (Hw.out.below hb14)
              have HN14 := Lib.hid (HN.out.below hb14)
              have HR14 : Hid (RowI w14 kA' kn' kc' ks') := Lib.hid (HR.out.later (S := fun _ => False) (Mod.of_below hb14) (fun _ _ h => h))
              clear hb14
              obtain ⟨y0, y1, y2, y3, y4⟩ := Hw14.out.cells
              cases ob with
              | true =>
                have hen : enoughB V' = true := by
                  have := Hob.out
                  unfold openB at this
                  simp only [Bool.and_eq_true] at this
                  exact this.1
                have Hen := Lib.hid hen
                clear hen
                go_wp2_with fail
                clear y0 y1 y2 y3 y4
                refine (Enough_any _ x' V' HN14.out.isV hm8).mono ?_
                rw [Hen.out]
                rintro e w16 ⟨rfl, hb16⟩
                have HB16 : Hid (Below w.heap.size w w16) := Lib.hid (bnext HB14.out hb16)
                have Hv16 := Lib.hid (Hv14.out.below hb16)
                have Hw16 := Lib.hid (Hw14.out.below hb16)
                have HN16 := Lib.hid (HN14.out.below hb16)
                have HR16 : Hid (RowI w16 kA' kn' kc' ks') := Lib.hid (HR14.out.later (S := fun _ => False) (Mod.of_below hb16) (fun _ _ h => h))
                clear hb16
                go_wp2
                go_meet
                case rel => exact ⟨rfl, HB16, Hv16, Hw16, HN16, HR16⟩
              | false =>
                go_wp2
                clear y0 y1 y2 y3 y4
                go_meet
                case rel => exact ⟨rfl, HB14, Hv14, Hw14, HN14, HR14⟩
          case rest =>
          clear HB Hv Hw HN HR
          obtain ⟨rfl, HB17, Hv17, Hw17, HN17, HR17⟩ := hcut
          obtain ⟨w17, hw17⟩ : ∃ w17 : World, w17 = wc := ⟨_, rfl⟩
          subst hw17
          have hne : ¬ gw = gv := by have := Hgw.out; omega
          have hne' : ¬ gv = gw := by have := Hgw.out; omega
          obtain ⟨v0, v1, v2, v3, v4⟩ := Hv17.out.cells
          obtain ⟨y0, y1, y2, y3, y4⟩ := Hw17.out.cells
          have f0 := Hv17.out.free 0
          have f1 := Hv17.out.free 1
          have f2 := Hv17.out.free 2
          have f3 := Hv17.out.free 3
          have f4 := Hv17.out.free 4
          go_wp2
          clear v0 v1 v2 v3 v4 y0 y1 y2 y3 y4 f0 f1 f2 f3 f4
          have m15 : Mod (· = gv) w17 (setV w17 gv x') := setV_mod w17 gv x'
          have HB15 : Hid (Below w.heap.size w (setV w17 gv x')) := Lib.hid (bmod HB17.out m15 Hgv.out)
          have Hv15 : Hid (BoxV (setV w17 gv x') gv x') := Lib.hid (setV_box Hv17.out x')
          have HN15 : Hid (Lst (setV w17 gv x') (Sk gv gv (.slice kA' kn' kc')) x' V') := Lib.hid ((HN17.out.wider (fun i hi => by
            rcases hi with h | h | h
            · exact .inl (.inl h)
            · exact .inl (.inl h)
            · exact .inl (.inr (.inr h)))).mod m15 (fun i e => .inl e))
          have HR15 : Hid (RowI (setV w17 gv x') kA' kn' kc' ks') := Lib.hid (HR17.out.later m15 (fun g hg e => (Hkg.out g hg).1 e))
          have HC15 : Hid (Ok V') := Lib.hid HC.out.ok
          have Hkg15 : Hid (∀ g, blk (.slice kA' kn' kc') = some g → g ≠ gv ∧ w.heap.size ≤ g) := Lib.hid (fun g hg => ⟨(Hkg.out g hg).1, (Hkg.out g hg).2.1⟩)
          go_roundw
          case rel => exact ⟨j + 1, x', V', kA', kn', kc', ks', by go_num, by omega, rfl, hkn', HB15, Hv15, HN15, HC15, HR15, HKy, Hkg15⟩
          case measure => simp [intOf]; omega
theorem own : ownKnob Try.prog.godebug = none := by kernel_rfl
theorem laidOut : laidOutB Try.prog = true := by kernel_rfl
set_option maxRecDepth 100000 in
theorem lifted (os : Os) (started : os.Started) (H : Type) (enc : TypeId × Value → H) :
    ReturnsInHanded {} Try.checked os 6 .any (Rows.viewKeepsSpec.pre6 enc Try.prog Try.f6 Rows.viewKeepsRow.domain false) (Rows.viewKeepsSpec.post enc Try.prog Try.f6 false true false false) := by
  refine returnsInHanded_of_change (C := Try.checked) own started (by kernel_rfl) Try.func6
    (ChangeSpec.witness6 (enc := enc) (C := Try.checked) false ⟨#[], #[.int .i64 0, .slice none 0 0], []⟩ 8 (by kernel_rfl) (by kernel_rfl) (by kernel_rfl) (by kernel_rfl)) ?_
  intro W base args ds gs before hval0 hW hcnd _
  have hval : ∀ (j : Nat) t v, Try.f6.params[j]? = some t → args[j]? = some v → Value.okWide Try.prog W .any base t v := hval0
  have hW' := hW
  obtain ⟨p, q, hA0, hV, rfl, hfz, hnd⟩ := hW
  have hA : DataW.TrodAll enc Try.prog W 0 (fun _ => true) true Try.f6.params.toList args.toList ds p := hA0
  rw [Try.params6] at hA hval
  obtain ⟨v0, vs0, d0, ds0, p0, q0, hargs, rfl, rfl, h0, r0⟩ := trodAll_cons hA
  obtain ⟨v1, vs1, d1, ds1, p1, q1, rfl, rfl, rfl, h1, r1⟩ := trodAll_cons r0
  obtain ⟨rfl, rfl, rfl⟩ := trodAll_nil r1
  obtain rfl : args = #[v0, v1] := by cases args; simp_all
  obtain ⟨a0, rfl, rfl, rfl, w0⟩ := open_int Try.underlying3 (hval 0 3 v0 rfl rfl) h0
  obtain ⟨x1, len1, cap1, a1, rfl, w1, y1⟩ := opens_ops (hval 1 38 v1 rfl rfl) h1
  clear hA0 hval0
  refine (walk a0 x1 len1 cap1 a1 W w0 w1 y1).mono fun e W' ⟨he, bel⟩ => ?_
  subst he
  exact ⟨_, rfl, law_post laidOut (by rw [Try.params6]; decide +kernel) rfl Try.underlying4 rfl hW' (fun _ => rfl) bel⟩
theorem over : Rows.viewKeepsRow.holds Try.pinned (OpenSpec.ofChange Rows.viewKeepsSpec) :=
  OpenClaim.holds_of_wide 6 Try.f6 rfl rfl rfl rfl rfl rfl rfl ⟨rfl, rfl, rfl, rfl, rfl⟩ rfl rfl rfl rfl rfl (by kernel_rfl) Try.func6 (by kernel_rfl)
    (of_decide_eq_true (by kernel_rfl)) (by unfold Func.isWrapper; first | (rw [if_pos (by decide +kernel)]; kernel_rfl) | (rw [if_neg (by decide +kernel)]; exact ⟨rfl, rfl⟩))
    (fun os started H enc _ => lifted os started H enc)
theorem proved : Rows.ViewKeepsSaid := over
end Go.Proofs.Ythdkoigiabmpaaa.viewKeeps
