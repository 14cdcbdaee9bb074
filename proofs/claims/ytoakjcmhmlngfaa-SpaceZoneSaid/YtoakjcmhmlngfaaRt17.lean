
/- The document's words of maps, at this translation: the same answers. -/
import Derived.Test.YtoakjcmhmlngfaaLb17
namespace Go.Proofs.Ytoakjcmhmlngfaa
open Go.RowKit

theorem rightM_not {l : Lay} {M : List (List UInt8)} {s : List UInt8} (h : s ∈ M) (hg : goodM l.z s = false) : rightM l M = false := by
  cases hk : rightM l M with
  | false => rfl
  | true =>
    rw [rightM, Bool.and_eq_true, Bool.and_eq_true, List.all_eq_true] at hk
    rw [hk.2.2 s h] at hg
    exact hg
theorem rightM_yes {l : Lay} {M : List (List UInt8)} (hk : layOk l = true) (h4 : M.length = 4) (h : ∀ s ∈ M, goodM l.z s = true) : rightM l M = true := by
  rw [rightM, Bool.and_eq_true, Bool.and_eq_true, List.all_eq_true]
  exact ⟨hk, by simpa using h4, h⟩
/-- Free bits ahead of k. -/
def fUp (s : List UInt8) (k : Nat) : Nat := ((List.range k).filter fun k => !Bm.bit s k).length
theorem fUp_succ (s : List UInt8) (k : Nat) : fUp s (k + 1) = fUp s k + (if Bm.bit s k then 0 else 1) := by
  rw [fUp, List.range_succ, List.filter_append, List.length_append, ← fUp]
  cases h : Bm.bit s k <;> simp [h]
theorem fUp_le (s : List UInt8) (k : Nat) : fUp s k ≤ k := by
  have := List.length_filter_le (fun k => !Bm.bit s k) (List.range k)
  rw [List.length_range] at this
  exact this
def freeN (z : Nat) (M : List (List UInt8)) : Nat := (M.map fun s => fUp s z).sum
theorem freeN_take {z : Nat} {M : List (List UInt8)} {j : Nat} {s : List UInt8} (h : M[j]? = some s) : freeN z (M.take (j + 1)) = freeN z (M.take j) + fUp s z := by
  obtain ⟨h1, e1⟩ := List.getElem?_eq_some_iff.1 h
  rw [List.take_succ_eq_append_getElem h1, e1]
  simp [freeN]
theorem freeN_le (z : Nat) (M : List (List UInt8)) : freeN z M ≤ M.length * z := by
  induction M with
  | nil => simp [freeN]
  | cons a M ih =>
    have h1 := fUp_le a z
    simp only [freeN, List.map_cons, List.sum_cons, List.length_cons, Nat.add_mul] at *
    omega
theorem freeN_taken {z : Nat} {M : List (List UInt8)} (h : ∀ s ∈ M, Good z s) : freeN z M + takenN M = M.length * z := by
  induction M with
  | nil => simp [freeN, takenN]
  | cons a M ih =>
    have h1 := frees_count a z
    have h2 := count_good (h a (by simp))
    have h3 := ih fun s hs => h s (by simp [hs])
    have h4 : fUp a z = (frees a z).length := rfl
    simp only [freeN, takenN, List.map_cons, List.sum_cons, List.length_cons, Nat.add_mul] at *
    omega
end Go.Proofs.Ytoakjcmhmlngfaa
