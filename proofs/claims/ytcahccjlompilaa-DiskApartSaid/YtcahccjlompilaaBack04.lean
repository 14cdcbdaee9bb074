/- slices.Backward over a cache's writes: the last one first; and the last write for a sector. -/
import Derived.RangeFuncNested
import Derived.RangeFuncBound
import Derived.RangeFuncCalls
import Derived.RangeFuncLeaves
import Derived.Shelf.Abstract
import Derived.Shelf.RegionOpen
import Derived.WalkKit
import Derived.OwnWalkIn
import Derived.TacticsInMore
import Derived.LoopNIn
import Derived.LoopIn
import Derived.Test.YtcahccjlompilaaDiskI
namespace Go.Proofs.Ytcahccjlompilaa
open Go.RowKit Go.Shelf

attribute [local go_sem] Oper.semAt_some

abbrev Back := Nat × (Nat × List UInt8)
def encB (x : Back) : Array Value := #[.int .i64 (x.1 : Int), .agg #[.int .i64 (x.2.1 : Int), .string (str x.2.2)]]
/-- What comes k-th from behind. -/
def backAt (c : List (Nat × List UInt8)) (k : Nat) : Back := (c.length - 1 - k, c.getD (c.length - 1 - k) (0, []))
def backs (c : List (Nat × List UInt8)) (k : Nat) : List Back := (List.range k).map (backAt c)
theorem backs_succ (c : List (Nat × List UInt8)) (k : Nat) : backs c (k + 1) = backs c k ++ [backAt c k] := by simp [backs, List.range_succ]
theorem backs_length (c : List (Nat × List UInt8)) (k : Nat) : (backs c k).length = k := by simp [backs]
set_option maxRecDepth 100000 in
set_option maxHeartbeats 2000000 in
theorem Backward1_in (F : Fence) (n : Nat) (h7 : F.fn 77) (hro : F.round = none) (hn : 1 ≤ n) (l Bs n₀ b off cap : Nat) (c : List (Nat × List UInt8)) (hcl : c.length ≤ 1000000) (hb : b < n₀) (hBs0 : Bs < n₀) (J Jx : List Back → World → Prop)
    (hY : ∀ pre x W, J pre W → pre.length < c.length → YieldAt F (n - 1) Try.prog l (encB x) W fun e W' =>
      (e = .returned (.bool true) ∧ J (pre ++ [x]) W' ∧ Below n₀ W W') ∨ (e = .returned (.bool false) ∧ Jx (pre ++ [x]) W'))
    (W : World) (hBs : W.cell? ⟨Bs, 0, none⟩ = some (.slice (some ⟨b, off, none⟩) c.length cap)) (hc : ∀ j u, (cw c)[j]? = some u → W.cell? ⟨b, off + j, none⟩ = some u) (h0 : J [] W) :
    CallsIn F n Try.prog 77 #[.func (.yield l) #[] #[], .pointer (some ⟨Bs, 0, none⟩)] W fun e W' => (∃ v, e = .returned v) ∧
      ((∃ ys, ys = backs c c.length ∧ J ys W') ∨ (∃ pre, (∃ k, k ≤ c.length ∧ pre = backs c k) ∧ Jx pre W')) := by
  refine callsIn_of_wp Try.func77 rfl h7 ?_ hro
  simp only [Try.ntmps77, List.size_toArray, List.length_cons, List.length_nil, Nat.reduceAdd, Nat.reduceSub, Array.replicate_succ, Array.replicate_zero, List.push_toArray, List.append_toArray, List.nil_append, List.cons_append]
  gi_wp2
  gi_loopw [3] (fun i wr => ∃ k : Nat, k ≤ c.length ∧ i = .int .i64 ((c.length : Int) - 1 - (k : Int)) ∧ J (backs c k) wr ∧ Below n₀ W wr)
    (fun i _ => (intOf i + 1).toNat)
  case atStart => exact ⟨0, Nat.zero_le _, by simp, h0, Below.refl _ _⟩
  case round =>
    obtain ⟨k, hk, rfl, hJs, hnx⟩ := hrel
    have hBs' := (hnx.cell (p := ⟨Bs, 0, none⟩) hBs0).trans hBs
    by_cases hlt : k < c.length
    · obtain ⟨m, hm⟩ : ∃ m, c.length = k + m + 1 := ⟨c.length - 1 - k, by omega⟩
      have hml : m < c.length := by omega
      have hba : backAt c k = (m, c[m]) := by
        rw [backAt, show c.length - 1 - k = m by omega, List.getD_eq_getElem?_getD, List.getElem?_eq_getElem hml]; rfl
      have hp := cw_get c m c[m] (List.getElem?_eq_getElem hml)
      have x0 : wr.cell? ⟨b, off + m * 2, none⟩ = some (.int .i64 (c[m].1 : Int)) := by
        rw [show off + m * 2 = off + 2 * m by omega]
        exact (hnx.cell (p := ⟨b, off + 2 * m, none⟩) hb).trans (hc _ _ hp.1)
      have x1 : wr.cell? ⟨b, off + m * 2 + 1, none⟩ = some (.string (str c[m].2)) := by
        rw [show off + m * 2 + 1 = off + (2 * m + 1) by omega]
        exact (hnx.cell (p := ⟨b, off + (2 * m + 1), none⟩) hb).trans (hc _ _ hp.2)
      obtain ⟨fn, tmps, assign, body, hy, hR⟩ := hY _ (m, c[m]) wr hJs (by rw [backs_length]; exact hlt)
      simp only [encB] at hy
      have HR := Lib.hid hR
      have Hnx := Lib.hid hnx
      have Hba := Lib.hid hba
      have Hm := Lib.hid hm
      have hmi : (m : Int) < (c.length : Int) := by omega
      rw [show (c.length : Int) - 1 - (k : Int) = (m : Int) by omega]
      clear hR hnx hp hba hm
      gi_wp2
      refine HR.out.mono ?_
      rintro e W3 (⟨rfl, hJ3, hk3⟩ | ⟨rfl, hJx3⟩)
      · gi_wp2
        go_roundw
        case rel => exact ⟨k + 1, by omega, by have := Hm.out; go_num, by rw [backs_succ, Hba.out]; exact hJ3, Hnx.out.trans hk3⟩
        case measure => simp [intOf]
      · gi_wp2
        refine bodyPost_ret (results_none rfl _ _ _) rfl ?_
        exact ⟨⟨_, rfl⟩, .inr ⟨_, ⟨k + 1, by omega, by rw [backs_succ, Hba.out]⟩, hJx3⟩⟩
    · obtain rfl : k = c.length := by omega
      rw [show (c.length : Int) - 1 - (c.length : Int) = -1 by omega]
      gi_wp2
      go_end0
      exact ⟨⟨_, rfl⟩, .inl ⟨_, rfl, hJs⟩⟩
set_option maxRecDepth 100000 in
theorem Backward_in (F : Fence) (n : Nat) (h5 : F.fn 65) (hro : F.round = none) (a : Option Addr) (len cap : Nat) (w : World) :
    CallsIn F n Try.prog 65 #[.slice a len cap] w fun e w' => e = .returned (.func (.func 77) #[] #[.pointer (some ⟨w.heap.size, 0, none⟩)]) ∧ w' = w.alloc (.cells #[.slice a len cap] 74) := by
  refine callsIn_of_wp Try.func65 rfl h5 ?_ hro
  simp only [Try.ntmps65, List.size_toArray, List.length_cons, List.length_nil, Nat.reduceAdd, Nat.reduceSub, Array.replicate_succ, Array.replicate_zero, List.push_toArray, List.append_toArray, List.nil_append, List.cons_append]
  gi_wp2
  go_ret
  exact ⟨rfl, rfl⟩
set_option maxRecDepth 100000 in
/-- Of no slice nothing comes. -/
theorem Backward1_nil (F : Fence) (n : Nat) (h7 : F.fn 77) (hro : F.round = none) (l Bs : Nat) (J : List Back → World → Prop) (W : World) (hBs : W.cell? ⟨Bs, 0, none⟩ = some (.slice none 0 0)) (h0 : J [] W) :
    CallsIn F n Try.prog 77 #[.func (.yield l) #[] #[], .pointer (some ⟨Bs, 0, none⟩)] W fun e W' => (∃ v, e = .returned v) ∧ J [] W' := by
  refine callsIn_of_wp Try.func77 rfl h7 ?_ hro
  simp only [Try.ntmps77, List.size_toArray, List.length_cons, List.length_nil, Nat.reduceAdd, Nat.reduceSub, Array.replicate_succ, Array.replicate_zero, List.push_toArray, List.append_toArray, List.nil_append, List.cons_append]
  gi_wp2
  gi_loopw [3] (fun i wr => i = .int .i64 (-1) ∧ J [] wr) (fun _ _ => 0)
  case atStart => exact ⟨rfl, h0⟩
  case round =>
    obtain ⟨rfl, hJs⟩ := hrel
    gi_wp2
    go_end0
    exact ⟨⟨_, rfl⟩, hJs⟩
/-- slices.Backward hands back a value that stops: all writes, the last one first; or a part, where a round has said 'no more'. -/
theorem back_stops (F : Fence) (n : Nat) (h7 : F.fn 77) (hro : F.round = none) (hn : 1 ≤ n) (Bs n₀ : Nat) (a : Option Addr) (cap : Nat) (c : List (Nat × List UInt8)) (hcl : c.length ≤ 1000000) (w : World) (hBs : Bs < n₀) (hn₀ : n₀ ≤ w.heap.size)
    (hc : w.cell? ⟨Bs, 0, none⟩ = some (.slice a c.length cap)) (hI : Row w 2 (.slice a c.length cap) c.length (cw c)) (hlow : ∀ g, blk (.slice a c.length cap) = some g → g < n₀) :
    SeqStopsK F n Try.prog 77 #[.pointer (some ⟨Bs, 0, none⟩)] encB (Below n₀) (fun ys => ys = backs c c.length) (fun pre => ∃ k, k ≤ c.length ∧ pre = backs c k) c.length w := fun l J Jx W hW _ _ hY h0 => by
  have hc' := (hW.cell (p := ⟨Bs, 0, none⟩) (Nat.lt_of_lt_of_le hBs hn₀)).trans hc
  rcases hI.is with ⟨he, he0⟩ | ⟨g, off, cap', he, hg, _, _, hcs, _⟩
  · rw [he] at hc'
    have hc0 : c = [] := List.eq_nil_of_length_eq_zero he0
    refine (Backward1_nil F n h7 hro l Bs J W hc' h0).mono fun e W' ⟨he, hj⟩ => ⟨he, .inl ⟨[], ?_, hj⟩⟩
    subst hc0; rfl
  · injection he with he e2 e3
    subst he e3
    exact Backward1_in F n h7 hro hn l Bs n₀ g off cap c hcl (hlow g rfl) hBs J Jx hY W hc' (fun j u hu => (hW.cell (p := ⟨g, off + j, none⟩) hg).trans (hcs j u hu)) h0
/-- The last write for a sector. -/
def lastO (c : List (Nat × List UInt8)) (i : Nat) : Option (Nat × List UInt8) := c.reverse.find? fun p => p.1 == i
def lastS (c : List (Nat × List UInt8)) (i : Nat) : List UInt8 := ((lastO c i).map (·.2)).getD []
def lastB (c : List (Nat × List UInt8)) (i : Nat) : Bool := (lastO c i).isSome
end Go.Proofs.Ytcahccjlompilaa
