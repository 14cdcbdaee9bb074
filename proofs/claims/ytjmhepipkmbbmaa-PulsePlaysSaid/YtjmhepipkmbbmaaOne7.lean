/- A pulse that watches one node: what it tells (plain). -/
import Derived.Test.YtjmhepipkmbbmaaOwn7
namespace Go.Proofs.Ytjmhepipkmbbmaa
open Go.RowKit

theorem tmod_bd (a : Int) {n : Int} (h : 0 < n) : -n < a.tmod n ∧ a.tmod n < n := by
  have h2 := Int.tmod_lt_of_pos a h
  have h3 := Int.lt_tmod_of_pos a h
  omega
/-- Node v alone is watched; the limit is n; t ticks ago it was heard of. -/
structure One (v n t : Nat) (s : PS) : Prop where
  lim : s.lim = (n : Int)
  wt : ∀ k, k < 8 → s.wt k = decide (k = v)
  tk : s.tk v = ((min t n : Nat) : Int)
theorem most_small {n : Nat} (h1 : 1 ≤ n) (h2 : n ≤ 1000) : mostP (n : Int) = (n : Int) := by unfold mostP; omega
theorem new_set (n v : Nat) (hv : v < 8) : setB (PS.new (n : Int)) (v : Int) false = true := by simp [setB, nodeB_yes hv, PS.new]
theorem one_new (n v : Nat) (hv : v < 8) : One v n 0 (setP (PS.new (n : Int)) (v : Int) false true) := by
  rw [setP, if_pos (new_set n v hv)]
  refine ⟨rfl, fun k _ => ?_, ?_⟩
  · by_cases e : k = v <;> simp [PS.put, PS.new, e]
  · simp [PS.put]
section
variable {v n t : Nat} {s : PS}
theorem one_tick (h : One v n t s) (h1 : 1 ≤ n) (h2 : n ≤ 1000) (hv : v < 8) : One v n (t + 1) (tickP s) := by
  refine ⟨h.lim, h.wt, ?_⟩
  simp only [tickP, tickTo, if_pos hv, h.tk, h.lim, most_small h1 h2]
  omega
theorem one_setB (h : One v n t s) (hv : v < 8) : setB s (v : Int) true = true := by simp [setB, nodeB_yes hv, h.wt v hv]
theorem one_heard (h : One v n t s) (hv : v < 8) : One v n 0 (setP s (v : Int) true true) := by
  rw [setP, if_pos (one_setB h hv)]
  refine ⟨h.lim, fun k hk => ?_, ?_⟩
  · by_cases e : k = v
    · simp [PS.put, e]
    · simp [PS.put, e, h.wt k hk]
  · simp [PS.put]
theorem pick_one (hv : v < 8) : pick (fun k => decide (k = v)) 8 = [v] := by
  match v, hv with
  | 0, _ | 1, _ | 2, _ | 3, _ | 4, _ | 5, _ | 6, _ | 7, _ => rfl
theorem pick_no : pick (fun _ => false) 8 = [] := rfl
theorem one_late (h : One v n t s) (h1 : 1 ≤ n) (h2 : n ≤ 1000) (hv : v < 8) : (lateL s).length = if n ≤ t then 1 else 0 := by
  have e : ∀ k, k < 8 → (s.wt k && s.tk k == mostP s.lim) = (decide (k = v) && decide (n ≤ t)) := by
    intro k hk
    rw [h.wt k hk, h.lim, most_small h1 h2]
    by_cases e : k = v
    · subst e
      rw [h.tk, Bool.eq_iff_iff]
      simp
      omega
    · simp [e]
  rw [lateL, pick_congr e]
  by_cases ht : n ≤ t
  · simp only [ht, decide_true, Bool.and_true, if_true]
    rw [pick_one hv]
    rfl
  · simp only [ht, decide_false, Bool.and_false, if_false]
    rw [pick_no]
    rfl
theorem one_quiet (h : One v n t s) (hv : v < 8) : quietP s (v : Int) = ((min t n : Nat) : Int) := by
  rw [quietP_in s hv, h.wt v hv, h.tk]
  simp
theorem one_forget (h : One v n t s) (hv : v < 8) : quietP (setP s (v : Int) true false) (v : Int) = -1 ∧ allL (setP s (v : Int) true false) = [] := by
  have e : setP s (v : Int) true false = s.put v false 0 := by rw [setP, if_pos (one_setB h hv)]; rfl
  rw [e]
  constructor
  · rw [quietP_in _ hv]
    simp [PS.put]
  · rw [allL, pick_congr (q := fun _ => false), pick_no]
    intro k hk
    by_cases ek : k = v
    · simp [PS.put, ek]
    · simp [PS.put, ek, h.wt k hk]
end
end Go.Proofs.Ytjmhepipkmbbmaa
