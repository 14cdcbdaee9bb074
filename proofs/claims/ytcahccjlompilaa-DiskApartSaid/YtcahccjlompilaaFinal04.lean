/- What lies once a cache is flushed, and what is read ahead of it. -/
import Derived.Test.YtcahccjlompilaaLaw04
import Derived.Test.YtcahccjlompilaaOps04
namespace Go.Proofs.Ytcahccjlompilaa
open Go.RowKit

theorem landed_snoc (l : List (List UInt8)) (c : List (Nat × List UInt8)) (p : Nat × List UInt8) (dec : Nat → Bool) : ∀ k, k ≤ c.length → landed l (c ++ [p]) dec k = landed l c dec k
  | 0, _ => rfl
  | k + 1, h => by
    have e : (c ++ [p]).getD k (0, []) = c.getD k (0, []) := by simp [List.getD_eq_getElem?_getD, List.getElem?_append, show k < c.length by omega]
    rw [landed, landed, landed_snoc l c p dec k (by omega), e]
theorem landed_last (l : List (List UInt8)) (c : List (Nat × List UInt8)) (p : Nat × List UInt8) (dec : Nat → Bool) : landed l (c ++ [p]) dec (c ++ [p]).length = if dec c.length = true then (landed l c dec c.length).set p.1 p.2 else landed l c dec c.length := by
  have e : (c ++ [p]).getD c.length (0, []) = p := by simp [List.getD_eq_getElem?_getD]
  rw [List.length_append, List.length_singleton, landed, landed_snoc l c p dec _ (Nat.le_refl _), e]
theorem landed_congr (l : List (List UInt8)) (c : List (Nat × List UInt8)) {dec dec' : Nat → Bool} : ∀ k, (∀ i, i < k → dec i = dec' i) → landed l c dec k = landed l c dec' k
  | 0, _ => rfl
  | k + 1, h => by rw [landed, landed, landed_congr l c k (fun i hi => h i (by omega)), h k (by omega)]
/-- What would lie there if a cache were flushed. -/
def allOf (l : List (List UInt8)) (c : List (Nat × List UInt8)) : List (List UInt8) := landed l c (fun _ => true) c.length
theorem allOf_snoc (l : List (List UInt8)) (c : List (Nat × List UInt8)) (p : Nat × List UInt8) : allOf l (c ++ [p]) = (allOf l c).set p.1 p.2 := by
  rw [allOf, landed_last, if_pos rfl, allOf]
theorem allOf_length (l : List (List UInt8)) (c : List (Nat × List UInt8)) : (allOf l c).length = l.length := landed_length _ _ _ _
theorem lastO_snoc (c : List (Nat × List UInt8)) (p : Nat × List UInt8) (i : Nat) : lastO (c ++ [p]) i = if p.1 = i then some p else lastO c i := by
  rw [lastO, List.reverse_append, List.reverse_singleton, List.singleton_append, List.find?_cons]
  by_cases h : p.1 = i
  · rw [if_pos h]
    simp [h]
  · rw [if_neg h]
    have : (p.1 == i) = false := by simpa using h
    rw [this, lastO]
theorem read_all (l : List (List UInt8)) (i : Nat) (hi : i < l.length) : ∀ (r : List (Nat × List UInt8)), (allOf l r.reverse).getD i [] = if lastB r.reverse i = true then lastS r.reverse i else l.getD i []
  | [] => by simp [allOf, landed, lastB, lastO]
  | p :: r => by
    have ih := read_all l i hi r
    rw [List.reverse_cons, allOf_snoc, lastB, lastS, lastO_snoc]
    by_cases h : p.1 = i
    · subst h
      rw [if_pos rfl, List.getD_eq_getElem?_getD, List.getElem?_set_self (by rw [allOf_length]; exact hi)]
      rfl
    · rw [if_neg h, List.getD_eq_getElem?_getD, List.getElem?_set_ne h, ← List.getD_eq_getElem?_getD, ih]
      rfl
theorem readS_all {s : DS} {k : Int} {i : Nat} (hi : i < s.lies.length) : readS s k i = (allOf s.lies (s.caches k)).getD i [] := by
  have := read_all s.lies i hi (s.caches k).reverse
  rw [List.reverse_reverse] at this
  rw [readS, this]
theorem settle_all (s : DS) (k : Int) : (s.settle k (fun _ => true)).lies = allOf s.lies (s.caches k) := rfl
/-- A block of four texts. -/
structure Four (w : World) (q : Nat) (l : List (List UInt8)) : Prop where
  length : l.length = 4
  cell : ∀ i, i < 4 → w.cell? ⟨q, i, none⟩ = some (.string (str (l.getD i [])))
  free : ∀ i, i < 4 → w.frozen? ⟨q, i, none⟩ = false
theorem Four.lt {w : World} {q : Nat} {l : List (List UInt8)} (h : Four w q l) : q < w.heap.size := lt_of_cell (h.cell 0 (by omega))
theorem Four.made (w : World) (a b c d : List UInt8) (t : TypeId) : Four (w.alloc (.cells #[.string (str a), .string (str b), .string (str c), .string (str d)] t)) w.heap.size [a, b, c, d] := by
  refine ⟨rfl, fun i hi => ?_, fun i hi => ?_⟩
  · match i, hi with
    | 0, _ => simp [go_sem]
    | 1, _ => simp [go_sem]
    | 2, _ => simp [go_sem]
    | 3, _ => simp [go_sem]
  · simp [go_sem]
theorem Four.set {w : World} {q : Nat} {l : List (List UInt8)} (h : Four w q l) (k : Nat) (x : List UInt8) : Four (w.setCell ⟨q, k, none⟩ (.string (str x))) q (l.set k x) := by
  refine ⟨by rw [List.length_set]; exact h.length, fun i hi => ?_, fun i hi => set_frozen (h.free i hi)⟩
  by_cases e : k = i
  · subst e
    rw [set_same (h.cell k hi)]
    simp [List.getD, show k < l.length by rw [h.length]; exact hi]
  · rw [set_other (fun h => e (by injection h)) (h.cell i hi)]
    simp [List.getD, e]
theorem Four.same {w w' : World} {q : Nat} {l : List (List UInt8)} (h : Four w q l) (hc : ∀ o, w'.cell? ⟨q, o, none⟩ = w.cell? ⟨q, o, none⟩) (hf : ∀ o, w'.frozen? ⟨q, o, none⟩ = w.frozen? ⟨q, o, none⟩) : Four w' q l :=
  ⟨h.length, fun i hi => (hc i).trans (h.cell i hi), fun i hi => (hf i).trans (h.free i hi)⟩
theorem Four.left {W w w' : World} {T : Nat → Prop} {q : Nat} {l : List (List UInt8)} (h : Four w q l) (m : Left W T w w') (hq : T q) : Four w' q l :=
  h.same (fun _ => m.cell hq h.lt) (fun _ => m.frozen hq h.lt)
theorem Four.below {w w' : World} {q : Nat} {l : List (List UInt8)} (h : Four w q l) (m : Below w.heap.size w w') : Four w' q l :=
  h.same (fun o => m.cell (p := ⟨q, o, none⟩) h.lt) (fun o => m.frozen (p := ⟨q, o, none⟩) h.lt)
theorem Four.other {w : World} {q q' o : Nat} {v : Value} {l : List (List UInt8)} (h : Four w q l) (hne : q' ≠ q) : Four (w.setCell ⟨q', o, none⟩ v) q l :=
  ⟨h.length, fun i hi => set_other (fun e => hne (by injection e)) (h.cell i hi), fun i hi => set_frozen (h.free i hi)⟩
end Go.Proofs.Ytcahccjlompilaa
