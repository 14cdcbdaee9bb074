/- The links of a network, one behind the other: what the method value gives that goes over them, and a range over it. -/
import Derived.RangeFuncNested
import Derived.RangeFuncBound
import Derived.RangeFuncCalls
import Derived.RangeFuncLeaves
import Derived.RangeFuncBox
import Derived.Shelf.Abstract
import Derived.Shelf.RegionOpen
import Derived.WalkKit
import Derived.OwnWalkIn
import Derived.TacticsInMore
import Derived.LoopNIn
import Derived.LoopIn
import Derived.Test.YtakhhpakajafkaaNew
namespace Go.Proofs.Ytakhhpakajafkaa
open Go.RowKit Go.Shelf

attribute [local go_sem] Oper.semAt_some

/-- The k-th link, as it is handed on. -/
def encL (b : Nat) (k : Nat) : Array Value := #[.agg #[.int .i64 ((k / 8 : Nat) : Int), .int .i64 ((k % 8 : Nat) : Int)], .pointer (some ⟨b, k, none⟩)]
theorem encL_at (b : Nat) {i j : Nat} (hj : j < 8) : encL b (8 * i + j) = #[.agg #[.int .i64 (i : Int), .int .i64 (j : Int)], .pointer (some ⟨b, 8 * i + j, none⟩)] := by
  rw [encL, show (8 * i + j) / 8 = i by omega, show (8 * i + j) % 8 = j by omega]
set_option maxRecDepth 100000 in
set_option maxHeartbeats 2000000 in
theorem links_in (F : Fence) (n : Nat) (h7 : F.fn 41) (hro : F.round = none) (hn : 1 ≤ n) (l b : Nat) (J Jx : Nat → World → Prop)
    (hY : ∀ k W, k < 64 → J k W → YieldAt F (n - 1) Try.prog l (encL b k) W fun e W' =>
      (e = .returned (.bool true) ∧ J (k + 1) W') ∨ (e = .returned (.bool false) ∧ Jx (k + 1) W'))
    (W : World) (h0 : J 0 W) :
    CallsIn F n Try.prog 41 #[.pointer (some ⟨b, 0, none⟩), .func (.yield l) #[] #[]] W fun e W' => (∃ v, e = .returned v) ∧ (J 64 W' ∨ ∃ k, k ≤ 64 ∧ Jx k W') := by
  refine callsIn_of_wp Try.func41 rfl h7 ?_ hro
  simp only [Try.ntmps41, List.size_toArray, List.length_cons, List.length_nil, Nat.reduceAdd, Nat.reduceSub, Array.replicate_succ, Array.replicate_zero, List.push_toArray, List.append_toArray, List.nil_append, List.cons_append]
  gi_wp2
  gi_loopw [8] (fun i wr => ∃ k : Nat, k ≤ 8 ∧ i = .int .i64 (k : Int) ∧ J (8 * k) wr)
    (fun i _ => 8 - (intOf i).toNat)
  case atStart => exact ⟨0, Nat.zero_le _, rfl, h0⟩
  case round =>
    obtain ⟨k, hk, rfl, hJ⟩ := hrel
    by_cases hlt : k < 8
    · have hd : decide ((k : Int) < 8) = true := by simp; omega
      gi_wp2
      clear hd
      obtain ⟨wo, rfl⟩ : ∃ wo : World, wo = wr := ⟨_, rfl⟩
      gi_loopw [11] (fun i wr => ∃ j : Nat, j ≤ 8 ∧ i = .int .i64 (j : Int) ∧ J (8 * k + j) wr)
        (fun i _ => 8 - (intOf i).toNat)
      case atStart => exact ⟨0, Nat.zero_le _, rfl, hJ⟩
      case round =>
        obtain ⟨j, hj, rfl, hJj⟩ := hrel
        by_cases hjt : j < 8
        · obtain ⟨fn, tmps, assign, body, hy, hR⟩ := hY (8 * k + j) wr (by omega) hJj
          rw [encL_at b hjt] at hy
          have HR := Lib.hid hR
          clear hR
          have e8 : k * 8 = 8 * k := Nat.mul_comm _ _
          gi_wp2
          refine HR.out.mono ?_
          rintro e W3 (⟨rfl, hJ3⟩ | ⟨rfl, hJx3⟩)
          · gi_wp2
            go_roundw
            case rel => exact ⟨j + 1, by omega, by go_num, hJ3⟩
            case measure => simp [intOf]; omega
          · gi_wp2
            refine bodyPost_ret (results_none rfl _ _ _) rfl ?_
            exact ⟨⟨_, rfl⟩, .inr ⟨8 * k + j + 1, by omega, hJx3⟩⟩
        · obtain rfl : j = 8 := by omega
          gi_wp2
          go_roundw
          case rel => exact ⟨k + 1, by omega, by go_num, hJj⟩
          case measure => simp [intOf]; omega
    · obtain rfl : k = 8 := by omega
      gi_wp2
      go_end0
      exact ⟨⟨_, rfl⟩, .inl hJ⟩
/-- No network has no links. -/
theorem links_nil (F : Fence) (n : Nat) (h7 : F.fn 41) (hro : F.round = none) (l : Nat) (J : Nat → World → Prop) (W : World) (h0 : J 0 W) :
    CallsIn F n Try.prog 41 #[.pointer none, .func (.yield l) #[] #[]] W fun e W' => (∃ v, e = .returned v) ∧ J 0 W' := by
  refine callsIn_of_wp Try.func41 rfl h7 ?_ hro
  simp only [Try.ntmps41, List.size_toArray, List.length_cons, List.length_nil, Nat.reduceAdd, Nat.reduceSub, Array.replicate_succ, Array.replicate_zero, List.push_toArray, List.append_toArray, List.nil_append, List.cons_append]
  gi_wp2
  refine bodyPost_ret (results_none rfl _ _ _) rfl ?_
  exact ⟨⟨_, rfl⟩, h0⟩
end Go.Proofs.Ytakhhpakajafkaa
