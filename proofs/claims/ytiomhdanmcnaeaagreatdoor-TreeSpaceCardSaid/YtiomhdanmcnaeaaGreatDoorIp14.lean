/- PLAIN: how many sectors bytes need, and the pieces of a range of bytes. -/
import Derived.Test.YtiomhdanmcnaeaaGreatDoorBase
namespace Go.Proofs.YtiomhdanmcnaeaaGreatDoor
open Go.RowKit

/-! ### how many sectors so many bytes need -/
def needI (n : Int) : Int := if n < 1 then 0 else min ((n - 1) / 512 + 1) 1125899906842624
theorem needI_lo {n : Int} (h : n < 1) : needI n = 0 := if_pos h
theorem needI_hi {n : Int} (h : ¬ n < 1) : needI n = min ((n - 1) / 512 + 1) 1125899906842624 := if_neg h
theorem needI_small {n : Int} (h : n ≤ 6144) : 0 ≤ needI n ∧ needI n ≤ 12 := by
  by_cases h1 : n < 1
  · rw [needI_lo h1]; omega
  · rw [needI_hi h1]; omega
/-! ### pieces -/
abbrev Pc := Nat × Nat × Nat
/-- The piece of a range from f to t in sector j. -/
def pc (f t j : Nat) : Pc := (j, f - 512 * j, min (t - 512 * j) 512)
/-- The pieces of a range from f to t. -/
def pcs (f t : Nat) : List Pc := if t ≤ f then [] else (List.range' (f / 512) ((t - 1) / 512 + 1 - f / 512)).map (pc f t)
theorem pcs_none {f t : Nat} (h : t ≤ f) : pcs f t = [] := if_pos h
theorem pcs_some {f t : Nat} (h : f < t) : pcs f t = (List.range' (f / 512) ((t - 1) / 512 + 1 - f / 512)).map (pc f t) := if_neg (by omega)
/-- The last piece. -/
theorem pcs_last {f t k : Nat} (h : f < t) (h1 : 512 * k < t) (h2 : t ≤ 512 * k + 512) : pcs f t = pcs f (512 * k) ++ [(k, f - 512 * k, t - 512 * k)] := by
  have ht : (t - 1) / 512 = k := by omega
  by_cases hf : f < 512 * k
  · rw [pcs_some h, pcs_some hf, ht]
    have e1 : (512 * k - 1) / 512 + 1 - f / 512 = k - f / 512 := by omega
    have e2 : k + 1 - f / 512 = (k - f / 512) + 1 := by omega
    have e3 : f / 512 + (k - f / 512) = k := by omega
    rw [e1, e2, List.range'_1_concat, List.map_append, e3]
    congr 1
    · refine List.map_congr_left fun j hj => ?_
      rw [List.mem_range'_1] at hj
      simp only [pc, Prod.mk.injEq, true_and]
      omega
    · simp only [pc, List.map_cons, List.map_nil, List.cons.injEq, Prod.mk.injEq, true_and, and_true]
      omega
  · rw [pcs_none (by omega : 512 * k ≤ f), pcs_some h, ht]
    have e1 : f / 512 = k := by omega
    have e2 : k + 1 - k = 1 := by omega
    rw [e1, e2]
    simp only [List.range'_one, List.map_cons, List.map_nil, pc, List.nil_append, List.cons.injEq, Prod.mk.injEq, true_and, and_true]
    omega
/-- A round of the program's loop. -/
theorem pcs_round (f t k : Nat) (h : 512 * k < t) : pcs f (min t (512 * (k + 1))) = if f - 512 * k < min (t - 512 * k) 512 then pcs f (min t (512 * k)) ++ [(k, f - 512 * k, min (t - 512 * k) 512)] else pcs f (min t (512 * k)) := by
  have e0 : min t (512 * k) = 512 * k := by omega
  rw [e0]
  by_cases hc : f - 512 * k < min (t - 512 * k) 512
  · rw [if_pos hc, pcs_last (k := k) (by omega) (by omega) (by omega), show min t (512 * (k + 1)) - 512 * k = min (t - 512 * k) 512 by omega]
  · rw [if_neg hc, pcs_none (by omega), pcs_none (by omega)]
theorem pcs_end {f t k : Nat} (h : t ≤ 512 * k) : pcs f (min t (512 * k)) = pcs f t := by rw [show min t (512 * k) = t by omega]
theorem pcs_length (f t : Nat) : (pcs f t).length = if t ≤ f then 0 else (t - 1) / 512 + 1 - f / 512 := by
  unfold pcs
  split <;> simp
theorem pcs_length_le {f t : Nat} (h : t ≤ 6144) : (pcs f t).length ≤ 12 := by
  rw [pcs_length]; split <;> omega
/-! ### one behind the other -/
/-- Pieces that lie one behind the other, from f to t. -/
def Chain : Nat → Nat → List Pc → Prop
  | f, t, [] => f = t
  | f, t, (i, a, b) :: l => 512 * i + a = f ∧ a < b ∧ b ≤ 512 ∧ Chain (512 * i + b) t l
theorem Chain.append : ∀ {f m t : Nat} {l1 l2 : List Pc}, Chain f m l1 → Chain m t l2 → Chain f t (l1 ++ l2)
  | f, m, t, [], l2, h, k => by rw [show f = m from h]; exact k
  | f, m, t, (i, a, b) :: l1, l2, ⟨h1, h2, h3, h4⟩, k => ⟨h1, h2, h3, h4.append k⟩
theorem Chain.le : ∀ {f t : Nat} {l : List Pc}, Chain f t l → f ≤ t
  | f, t, [], h => Nat.le_of_eq h
  | f, t, (i, a, b) :: l, ⟨h1, h2, h3, h4⟩ => by have := h4.le; omega
theorem pcs_chain_to (f : Nat) : ∀ k, f ≤ 512 * k → Chain f (512 * k) (pcs f (512 * k))
  | 0, h => by
    obtain rfl : f = 0 := by omega
    exact rfl
  | k + 1, h => by
    by_cases hf : f < 512 * (k + 1)
    · rw [pcs_last (k := k) hf (by omega) (by omega)]
      by_cases h1 : f ≤ 512 * k
      · refine (pcs_chain_to f k h1).append ⟨by omega, by omega, by omega, ?_⟩
        show 512 * k + (512 * (k + 1) - 512 * k) = 512 * (k + 1)
        omega
      · rw [pcs_none (by omega : 512 * k ≤ f)]
        refine ⟨by omega, by omega, by omega, ?_⟩
        show 512 * k + (512 * (k + 1) - 512 * k) = 512 * (k + 1)
        omega
    · rw [pcs_none (by omega)]
      show f = 512 * (k + 1)
      omega
theorem pcs_chain {f t : Nat} (h : f ≤ t) : Chain f t (pcs f t) := by
  by_cases hf : f < t
  · obtain ⟨k, h1, h2⟩ : ∃ k, 512 * k < t ∧ t ≤ 512 * k + 512 := ⟨(t - 1) / 512, by omega, by omega⟩
    rw [pcs_last hf h1 h2]
    by_cases h3 : f ≤ 512 * k
    · refine (pcs_chain_to f k h3).append ⟨by omega, by omega, by omega, ?_⟩
      show 512 * k + (t - 512 * k) = t
      omega
    · rw [pcs_none (by omega : 512 * k ≤ f)]
      refine ⟨by omega, by omega, by omega, ?_⟩
      show 512 * k + (t - 512 * k) = t
      omega
  · rw [pcs_none (by omega)]
    exact Nat.le_antisymm h (by omega)
/-- A byte more: the document's round. -/
theorem pcs_new {f i : Nat} (h : f ≤ i) (hn : i = f ∨ i % 512 = 0) : pcs f (i + 1) = pcs f i ++ [(i / 512, i % 512, i % 512 + 1)] := by
  have e := pcs_last (f := f) (t := i + 1) (k := i / 512) (by omega) (by omega) (by omega)
  rw [e]
  rcases hn with rfl | hn
  · rw [pcs_none (Nat.le_refl i), pcs_none (by omega : 512 * (i / 512) ≤ i)]
    simp only [List.nil_append, List.cons.injEq, Prod.mk.injEq, true_and, and_true]
    omega
  · rw [show 512 * (i / 512) = i by omega]
    congr 1
    simp only [List.cons.injEq, Prod.mk.injEq, true_and, and_true]
    omega
theorem pcs_more {f i : Nat} (h : f < i) (hn : i % 512 ≠ 0) : ∃ A x, pcs f i = A ++ [(i / 512, x, i % 512)] ∧ pcs f (i + 1) = A ++ [(i / 512, x, i % 512 + 1)] := by
  have e1 := pcs_last (f := f) (t := i + 1) (k := i / 512) (by omega) (by omega) (by omega)
  have e2 := pcs_last (f := f) (t := i) (k := i / 512) (by omega) (by omega) (by omega)
  rw [show i + 1 - 512 * (i / 512) = i % 512 + 1 by omega] at e1
  rw [show i - 512 * (i / 512) = i % 512 by omega] at e2
  exact ⟨_, _, e2, e1⟩
theorem pcs_lastIndex {f i : Nat} (h : f < i) : ∃ A x y, pcs f i = A ++ [((i - 1) / 512, x, y)] := by
  have e := pcs_last (f := f) (t := i) (k := (i - 1) / 512) h (by omega) (by omega)
  exact ⟨_, _, _, e⟩
/-- The range as the program keeps it. -/
def clampF (f : Int) : Nat := (min (max f 0) 6144).toNat
def clampT (f t : Int) : Nat := (min (max t (clampF f)) 6144).toNat
theorem clamp_le (f t : Int) : clampF f ≤ clampT f t ∧ clampT f t ≤ 6144 := by unfold clampT clampF; omega
def pieces (f t : Int) : List Pc := pcs (clampF f) (clampT f t)
end Go.Proofs.YtiomhdanmcnaeaaGreatDoor
