/- The document's functions over views: Enough, Key, Open, without. -/
import Derived.Test.YtfdbkmncgngkjaaOps06
namespace Go.Proofs.Ytfdbkmncgngkjaa
open Go.RowKit

theorem REnough_any (w : World) (x : Vx) (V : Vw) (h : IsV w x V) (hs : V.mem.length ≤ 1000) :
    Calls Try.prog 36 #[vV x] w fun e w' => e = .returned (.bool (enoughB V)) ∧ Below w.heap.size w w' := by
  rw [h.mem.length] at hs
  have Hr : Hid (enoughB V = decide (x.nodes < 2 * (x.mn : Int))) := Lib.hid (by rw [h.nodes, ← h.mem.length]; rfl)
  clear h
  go_enter Try.func36, Try.ntmps36
  go_wp2
  go_ret
  exact ⟨ret_bool Hr.out.symm, (Below.refl _ _).alloc (Nat.le_refl _) _⟩
set_option maxHeartbeats 1000000 in
theorem RKey_any (node inc : Int) (w : World) :
    Calls Try.prog 40 #[.int .i64 node, .int .i64 inc] w fun e w' => e = .returned (.int .i64 (keyOf node inc)) ∧ w = w' := by
  by_cases h0 : node < 0
  · have Hp : Hid (keyOf node inc = 0) := Lib.hid (if_pos (.inl h0))
    have h0' : decide (node < 0) = true := by simpa using h0
    go_enter Try.func40, Try.ntmps40
    go_wp2
    go_ret
    exact ⟨ret_int Hp.out.symm, rfl⟩
  by_cases h1 : 7 < node
  · have Hp : Hid (keyOf node inc = 0) := Lib.hid (if_pos (.inr (.inl (by omega))))
    have h0' : decide (node < 0) = false := by simpa using h0
    have h1' : decide (7 < node) = true := by simpa using h1
    go_enter Try.func40, Try.ntmps40
    go_wp2
    go_ret
    exact ⟨ret_int Hp.out.symm, rfl⟩
  by_cases h2 : inc < 1
  · have Hp : Hid (keyOf node inc = 0) := Lib.hid (if_pos (.inr (.inr (.inl h2))))
    have h0' : decide (node < 0) = false := by simpa using h0
    have h1' : decide (7 < node) = false := by simpa using h1
    have h2' : decide (inc < 1) = true := by simpa using h2
    go_enter Try.func40, Try.ntmps40
    go_wp2
    go_ret
    exact ⟨ret_int Hp.out.symm, rfl⟩
  by_cases h3 : 1099511627776 < inc
  · have Hp : Hid (keyOf node inc = 0) := Lib.hid (if_pos (.inr (.inr (.inr h3))))
    have h0' : decide (node < 0) = false := by simpa using h0
    have h1' : decide (7 < node) = false := by simpa using h1
    have h2' : decide (inc < 1) = false := by simpa using h2
    have h3' : decide (1099511627776 < inc) = true := by simpa using h3
    go_enter Try.func40, Try.ntmps40
    go_wp2
    go_ret
    exact ⟨ret_int Hp.out.symm, rfl⟩
  · have Hp : Hid (keyOf node inc = 8 * inc + node + 1) := Lib.hid (if_neg (by omega))
    have h0' : decide (node < 0) = false := by simpa using h0
    have h1' : decide (7 < node) = false := by simpa using h1
    have h2' : decide (inc < 1) = false := by simpa using h2
    have h3' : decide (1099511627776 < inc) = false := by simpa using h3
    go_enter Try.func40, Try.ntmps40
    go_wp2
    go_ret
    exact ⟨ret_int Hp.out.symm, rfl⟩
/-! ### without, unready -/
def pWo (node inc : Int) (m : Mb) : Bool := m.1 != node || (inc != 0 && m.2.1 != inc)
theorem take_filter {l : List Mb} {p : Mb → Bool} {k : Nat} {m : Mb} (h : l[k]? = some m) : (l.take (k + 1)).filter p = (l.take k).filter p ++ (if p m then [m] else []) := by
  rw [List.take_add_one, h, List.filter_append]
  congr 1
  simp only [Option.toList_some, List.filter_cons, List.filter_nil]
theorem mb1_at (w : World) (m : Mb) : ∀ (j : Nat) (u : Value), (mb1 m)[j]? = some u → (w.alloc (.cells #[.int .i64 m.1, .int .i64 m.2.1, .bool m.2.2] 53)).cell? ((⟨w.heap.size, 0, none⟩ : Addr).add j) = some u := by
  intro j u hj
  match j, hj with
  | 0, hj => simp [mb1] at hj; subst hj; simp [Addr.add, go_sem]
  | 1, hj => simp [mb1] at hj; subst hj; simp [Addr.add, go_sem]
  | 2, hj => simp [mb1] at hj; subst hj; simp [Addr.add, go_sem]
  | j + 3, hj => simp [mb1] at hj
theorem mb1_one (m : Mb) : ∀ u ∈ mb1 m, u.oneCell' = true := by
  intro u hu
  simp only [mb1, List.mem_cons, List.not_mem_nil, or_false] at hu
  rcases hu with rfl | rfl | rfl <;> rfl
/-- A list of a call's own. -/
structure OwnL (w : World) (B : Nat) (A : Option Addr) (n c : Nat) (l : List Mb) : Prop where
  row : RowM w A n c l
  new : ∀ g, blk (.slice A n c) = some g → B ≤ g
theorem OwnL.nil (w : World) (B : Nat) : OwnL w B none 0 0 [] := ⟨row_nil _ _, fun g h => by cases h⟩
theorem OwnL.more {w w2 : World} {B : Nat} {A : Option Addr} {n c : Nat} {l : List Mb} (h : OwnL w B A n c l) (hB : B ≤ w.heap.size) (m : Mb) {x : Addr} {cap : Nat}
    (hr : Row w2 3 (.slice (some x) (n + 1) cap) (n + 1) (mcs l ++ mb1 m)) (hb : blk (.slice (some x) (n + 1) cap) = blk (.slice A n c) ∨ ∃ g, blk (.slice (some x) (n + 1) cap) = some g ∧ w.heap.size ≤ g) : OwnL w2 B (some x) (n + 1) cap (l ++ [m]) := by
  refine ⟨by rw [← mcs_one, ← mcs_append] at hr; exact hr, fun g hg => ?_⟩
  rcases hb with e | ⟨g', e, hg'⟩
  · rw [e] at hg
    exact h.new g hg
  · rw [e] at hg
    obtain rfl := Option.some.inj hg
    omega
set_option maxHeartbeats 4000000 in
theorem without_any (w : World) (A : Option Addr) (n c : Nat) (l : List Mb) (h : IsL w A n c l) (hs : l.length ≤ 1000) (node inc : Int) :
    Calls Try.prog 71 #[.slice A n c, .int .i64 node, .int .i64 inc] w fun e w' => ∃ A' n' c', e = .returned (.slice A' n' c') ∧ OwnL w' w.heap.size A' n' c' (l.filter (pWo node inc)) ∧ Below w.heap.size w w' := by
  have Hh := Lib.hid h
  have hn : n ≤ 1000 := by rw [← h.length]; exact hs
  obtain ⟨i0, hi, hz0, hz1, hz2⟩ := info_parts infoM
  have Hi := Lib.hid hi
  have Hz0 := Lib.hid hz0
  have Hz1 := Lib.hid hz1
  have Hz2 := Lib.hid hz2
  clear h hi hz0 hz1 hz2
  go_enter Try.func71, Try.ntmps71
  go_wp2
  go_loopw [7, 8] (fun v i wr => ∃ (k : Nat) (B : Option Addr) (bn bc : Nat), i = .int .i64 (k : Int) ∧ k ≤ n ∧ v = .slice B bn bc ∧ bn ≤ k ∧ Hid (OwnL wr w.heap.size B bn bc ((l.take k).filter (pWo node inc))) ∧ Hid (Below w.heap.size w wr)) (fun _ i _ => n - (intOf i).toNat)
  case atStart => exact ⟨0, none, 0, 0, rfl, Nat.zero_le _, rfl, Nat.le_refl _, Lib.hid (OwnL.nil _ _), Lib.hid (Below.refl _ _)⟩
  case round =>
    obtain ⟨k, B, bn, bc, rfl, hk, rfl, hbn, HO, HB⟩ := hrel
    by_cases hlt : k < n
    · have hd : decide ((k : Int) < (n : Int)) = true := by simpa using hlt
      obtain ⟨g, off, eA, hg, hcs⟩ := (Hh.out.below HB.out).cells (by omega)
      obtain ⟨m, hm⟩ : ∃ m, l[k]? = some m := ⟨_, List.getElem?_eq_getElem (by rw [Hh.out.length]; exact hlt)⟩
      obtain ⟨c0, c1, c2⟩ := hcs k m hm
      have hix := fun w => idxM (n := n) (c := c) eA hlt w
      have Hf := Lib.hid (take_filter (p := pWo node inc) hm)
      clear hcs hm eA
      cases q1 : (m.1 != node) with
      | true =>
        have Hp : Hid (pWo node inc m = true) := Lib.hid (by unfold pWo; rw [q1]; rfl)
        go_upto_region 6 with (fail)
        have hrow : RowM (wr.alloc (.cells #[.int .i64 m.1, .int .i64 m.2.1, .bool m.2.2] 53)) B bn bc ((l.take k).filter (pWo node inc)) := HO.out.row.later (S := fun _ => False) (Mod.of_below ((Below.refl _ _).alloc (Nat.le_refl _) _)) (fun _ _ h => h)
        have Hrow := Lib.hid hrow
        have hat := mb1_at wr m
        have Hat := Lib.hid hat
        clear hrow hat
        go_wp2_with (at_builtin; refine wpList_append_row _ rfl (.tmp 35) (.tmp 40) 22 rfl Hrow.out 53 i0 (.agg #[.int .i64 0, .int .i64 0, .bool false]) 24 Try.underlying22 Hi.out Hz0.out Hz1.out Hz2.out rfl (by decide) rfl ⟨wr.heap.size, 0, none⟩ 1 1 (mb1 m) rfl rfl Hat.out (mb1_one m) (by decide) ?c3 ?c4 ?_)
        case c3 => unfold maxLen; omega
        case c4 => omega
        intro q cap' w2 hr hm2 hb2
        have b1 : Below w.heap.size w (wr.alloc (.cells #[.int .i64 m.1, .int .i64 m.2.1, .bool m.2.2] 53)) := balloc HB.out _
        have HO2 : Hid (OwnL w2 w.heap.size (some q) (bn + 1) cap' ((l.take (k + 1)).filter (pWo node inc))) := Lib.hid (by
          rw [Hf.out, Hp.out, if_pos rfl]
          exact OwnL.more (w := wr) HO.out HB.out.size m hr (hb2.imp id (fun ⟨g, h1, h2⟩ => ⟨g, h1, by omega⟩)))
        have HB2 : Hid (Below w.heap.size w w2) := Lib.hid (hm2.below b1 b1.size (fun i hi => HO.out.new i hi))
        clear hr hm2 hb2 b1
        go_wp2
        go_roundw
        case rel => exact ⟨k + 1, some q, bn + 1, cap', by go_num, by omega, rfl, by omega, HO2, HB2⟩
        case measure => simp [intOf]; omega
      | false =>
        cases q2 : (inc != 0) with
        | true =>
          cases q3 : (m.2.1 != inc) with
          | true =>
            have Hp : Hid (pWo node inc m = true) := Lib.hid (by unfold pWo; rw [q1, q2, q3]; rfl)
            go_upto_region 6 with (fail)
            have hrow : RowM (wr.alloc (.cells #[.int .i64 m.1, .int .i64 m.2.1, .bool m.2.2] 53)) B bn bc ((l.take k).filter (pWo node inc)) := HO.out.row.later (S := fun _ => False) (Mod.of_below ((Below.refl _ _).alloc (Nat.le_refl _) _)) (fun _ _ h => h)
            have Hrow := Lib.hid hrow
            have hat := mb1_at wr m
            have Hat := Lib.hid hat
            clear hrow hat
            go_wp2_with (at_builtin; refine wpList_append_row _ rfl (.tmp 35) (.tmp 40) 22 rfl Hrow.out 53 i0 (.agg #[.int .i64 0, .int .i64 0, .bool false]) 24 Try.underlying22 Hi.out Hz0.out Hz1.out Hz2.out rfl (by decide) rfl ⟨wr.heap.size, 0, none⟩ 1 1 (mb1 m) rfl rfl Hat.out (mb1_one m) (by decide) ?c3 ?c4 ?_)
            case c3 => unfold maxLen; omega
            case c4 => omega
            intro q cap' w2 hr hm2 hb2
            have b1 : Below w.heap.size w (wr.alloc (.cells #[.int .i64 m.1, .int .i64 m.2.1, .bool m.2.2] 53)) := balloc HB.out _
            have HO2 : Hid (OwnL w2 w.heap.size (some q) (bn + 1) cap' ((l.take (k + 1)).filter (pWo node inc))) := Lib.hid (by
              rw [Hf.out, Hp.out, if_pos rfl]
              exact OwnL.more (w := wr) HO.out HB.out.size m hr (hb2.imp id (fun ⟨g, h1, h2⟩ => ⟨g, h1, by omega⟩)))
            have HB2 : Hid (Below w.heap.size w w2) := Lib.hid (hm2.below b1 b1.size (fun i hi => HO.out.new i hi))
            clear hr hm2 hb2 b1
            go_wp2
            go_roundw
            case rel => exact ⟨k + 1, some q, bn + 1, cap', by go_num, by omega, rfl, by omega, HO2, HB2⟩
            case measure => simp [intOf]; omega
          | false =>
            have Hp : Hid (pWo node inc m = false) := Lib.hid (by unfold pWo; rw [q1, q2, q3]; rfl)
            have HO2 : Hid (OwnL wr w.heap.size B bn bc ((l.take (k + 1)).filter (pWo node inc))) := Lib.hid (by
              rw [Hf.out, Hp.out]
              simpa using HO.out)
            go_wp2
            go_roundw
            case rel => exact ⟨k + 1, B, bn, bc, by go_num, by omega, rfl, by omega, HO2, HB⟩
            case measure => simp [intOf]; omega
        | false =>
          have Hp : Hid (pWo node inc m = false) := Lib.hid (by unfold pWo; rw [q1, q2]; rfl)
          have HO2 : Hid (OwnL wr w.heap.size B bn bc ((l.take (k + 1)).filter (pWo node inc))) := Lib.hid (by
            rw [Hf.out, Hp.out]
            simpa using HO.out)
          go_wp2
          go_roundw
          case rel => exact ⟨k + 1, B, bn, bc, by go_num, by omega, rfl, by omega, HO2, HB⟩
          case measure => simp [intOf]; omega
    · have hd : decide ((k : Int) < (n : Int)) = false := by simpa using hlt
      have hk' : l.take k = l := List.take_of_length_le (by rw [Hh.out.length]; omega)
      have HO' : Hid (OwnL wr w.heap.size B bn bc (l.filter (pWo node inc))) := Lib.hid (by have := HO.out; rwa [hk'] at this)
      go_wp2
      go_ret
      exact ⟨B, bn, bc, rfl, HO'.out, HB.out⟩
end Go.Proofs.Ytfdbkmncgngkjaa
