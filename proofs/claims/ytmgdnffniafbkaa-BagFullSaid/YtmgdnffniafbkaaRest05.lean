/- Rests of numbers; bytes 0 as a text; a link that fills. -/
import Derived.Test.YtmgdnffniafbkaaAwake05
import Derived.Test.YtmgdnffniafbkaaByt
namespace Go.Proofs.Ytmgdnffniafbkaa
open Go.RowKit

theorem rest_neg {n m : Int} (hm : 0 < m) (hm2 : m ≤ 1000000) (h : n.tmod m < 0) : ∃ k : Nat, Hid (wrap64 (-n.tmod m) = (k : Int)) ∧ (k : Int) < m := by
  have h1 : n < 0 := by
    rcases Int.lt_or_le n 0 with h1 | h1
    · exact h1
    · rw [Int.tmod_eq_emod_of_nonneg h1] at h
      have := Int.emod_nonneg n (b := m) (by omega)
      omega
  have e : -n.tmod m = (-n) % m := by rw [← Int.neg_tmod, Int.tmod_eq_emod_of_nonneg (by omega)]
  have h2 := Int.emod_nonneg (-n) (b := m) (by omega)
  have h3 := Int.emod_lt_of_pos (-n) hm
  refine ⟨((-n) % m).toNat, Lib.hid ?_, by omega⟩
  rw [e, IntWalk.wrap64_in _ ⟨by omega, by omega⟩]
  omega
theorem rest_pos {n m : Int} (hm : 0 < m) (h : 0 ≤ n.tmod m) : ∃ k : Nat, Hid (n.tmod m = (k : Int)) ∧ (k : Int) < m := by
  have h1 : n.tmod m < m := Int.tmod_lt_of_pos n hm
  exact ⟨(n.tmod m).toNat, Lib.hid (by omega), by omega⟩
/-- A network with n texts on the link from 3 to 4. -/
def fs (n : Nat) : NS := fun i => if i = 28 then List.replicate n [] else []
theorem fs_zero : fs 0 = NS.none := by funext i; simp [fs, NS.none]
theorem fs_on (n : Nat) : onL (fs n) 3 4 = List.replicate n [] := rfl
theorem fs_send (n : Nat) : sendB (fs n) 3 4 [] = decide (n < 200) := by
  have : linkB 3 4 = true := by decide
  simp [sendB, fs_on, this]
theorem fs_to (n : Nat) (l : List UInt8) (h : l = []) : toL (fs n) 3 4 (List.replicate n [] ++ [l]) = fs (n + 1) := by
  subst h
  have e : toL (fs n) 3 4 (List.replicate n [] ++ [[]]) = (fs n).put 28 (List.replicate n [] ++ [[]]) := rfl
  rw [e]
  funext i
  by_cases h : i = 28
  · subst h; rw [NS.put_same]; simp [fs, List.replicate_succ']
  · rw [NS.put_other _ _ h]; simp [fs, h]
theorem fs_sent {n : Nat} (h : n < 200) : sendS (fs n) 3 4 [] = fs (n + 1) := by
  rw [sendS, if_pos (by rw [fs_send]; simpa using h), fs_on, fs_to n [] rfl]
theorem fs_full {n : Nat} (h : ¬ n < 200) : sendS (fs n) 3 4 [] = fs n := by
  rw [sendS, if_neg (by rw [fs_send]; simpa using h)]
theorem fs_dbB {n : Nat} (h0 : 0 < n) : dbB (fs n) 3 4 = decide (n < 200) := by
  rw [dbB, fs_on, List.length_replicate, decide_eq_true h0, Bool.true_and]
/-- Another link has room. -/
theorem fs_other (n : Nat) (l : List UInt8) : sendB (dbS (fs n) 3 4 0) 4 3 l = decide (l.length ≤ 2000) := by
  have h1 : onL (dbS (fs n) 3 4 0) 4 3 = [] := by
    have e : onL (dbS (fs n) 3 4 0) 4 3 = dbS (fs n) 3 4 0 35 := rfl
    rw [e, dbS]
    split
    · have e2 : ∀ l, toL (fs n) 3 4 l 35 = fs n 35 := fun _ => rfl
      rw [e2]; rfl
    · rfl
  have h2 : linkB 4 3 = true := by decide
  simp [sendB, h1, h2]
end Go.Proofs.Ytmgdnffniafbkaa
