
/- The document's Split, at this translation. -/
import Derived.Test.YtiomhdanmcnaeaaGreatDoorSr15
namespace Go.Proofs.YtiomhdanmcnaeaaGreatDoor
open Go.RowKit

/-- Where the document's loop stands. -/
structure DS (l : List UInt8) (out : List (List UInt8)) (name : List UInt8) (k : Nat) : Prop where
  at_ : (k ≤ l.length ∧ l.take k = joinP out ++ 47 :: name) ∨ (k = l.length + 1 ∧ joinP out = l ∧ out ≠ [])
  a : ∀ s ∈ out, nameB s = true
  n : out.length ≤ 8
  c : ∀ c ∈ name, c ≠ 47
  t : name.length ≤ 30
theorem DS.here {l : List UInt8} {out : List (List UInt8)} {name : List UInt8} {k : Nat} (h : DS l out name k) (hk : k ≤ l.length) : l = joinP out ++ 47 :: (name ++ l.drop k) := by
  rcases h.at_ with ⟨_, e⟩ | ⟨e, _⟩
  · rw [← List.cons_append, ← List.append_assoc, ← e, List.take_append_drop]
  · omega
theorem DS.first {r : List UInt8} : DS (47 :: r) [] [] 1 := ⟨.inl ⟨by simp, by simp [joinP]⟩, by simp, by simp, by simp, by simp⟩
theorem DS.byte {l : List UInt8} {out : List (List UInt8)} {name : List UInt8} {k : Nat} (h : DS l out name k) (hk : k < l.length) (hx : l[k] ≠ 47) (ht : (name ++ [l[k]]).length ≤ 30) : DS l out (name ++ [l[k]]) (k + 1) :=
  ⟨.inl ⟨hk, by
    rcases h.at_ with ⟨_, e⟩ | ⟨e, _⟩
    · rw [List.take_succ_eq_append_getElem hk, e]; simp
    · omega⟩, h.a, h.n, fun c hc => by
      rcases List.mem_append.1 hc with hc | hc
      · exact h.c c hc
      · simp at hc; rw [hc]; exact hx, ht⟩
theorem DS.long {l : List UInt8} {out : List (List UInt8)} {name : List UInt8} {k : Nat} (h : DS l out name k) (hne : l ≠ [47]) (hk : k < l.length) (hx : l[k] ≠ 47) (ht : 30 < (name ++ [l[k]]).length) : Splits l [] false :=
  splits_long (name := name ++ [l[k]]) (r := l.drop (k + 1)) (by
    have e := h.here (Nat.le_of_lt hk)
    rw [List.drop_eq_getElem_cons hk] at e
    rw [List.append_assoc, List.singleton_append]; exact e) hne (fun c hc => by
      rcases List.mem_append.1 hc with hc | hc
      · exact h.c c hc
      · simp at hc; rw [hc]; exact hx) h.a ht
theorem DS.bad {l : List UInt8} {out : List (List UInt8)} {name : List UInt8} {k : Nat} (h : DS l out name k) (hne : l ≠ [47]) (hk : k ≤ l.length) (hx : ∀ h : k < l.length, l[k] = 47) (hb : nameB name = false ∨ 8 ≤ out.length) : Splits l [] false :=
  splits_bad (name := name) (r := l.drop k) (h.here hk) hne (by
    rcases Nat.lt_or_ge k l.length with h1 | h1
    · exact .inr ⟨l.drop (k + 1), by rw [List.drop_eq_getElem_cons h1, hx h1]⟩
    · exact .inl (List.drop_eq_nil_of_le h1)) h.c h.a hb
theorem DS.name {l : List UInt8} {out : List (List UInt8)} {name : List UInt8} {k : Nat} (h : DS l out name k) (hk : k ≤ l.length) (hx : ∀ h : k < l.length, l[k] = 47) (hb : nameB name = true) (hn : out.length < 8) : DS l (out ++ [name]) [] (k + 1) := by
  refine ⟨?_, fun s hs => ?_, by simp; omega, by simp, by simp⟩
  · rcases h.at_ with ⟨_, e⟩ | ⟨e, _⟩
    · rcases Nat.lt_or_ge k l.length with h1 | h1
      · exact .inl ⟨h1, by rw [List.take_succ_eq_append_getElem h1, e, hx h1, joinP_append]; simp [joinP]⟩
      · refine .inr ⟨by omega, ?_, by simp⟩
        rw [List.take_of_length_le h1] at e
        rw [joinP_append, e]; simp [joinP]
    · omega
  · rcases List.mem_append.1 hs with hs | hs
    · exact h.a s hs
    · simp at hs; rw [hs]; exact hb
theorem DS.done {l : List UInt8} {out : List (List UInt8)} {name : List UInt8} {k : Nat} (h : DS l out name k) (hk : ¬ k ≤ l.length) : Splits l out true := by
  rcases h.at_ with ⟨e, _⟩ | ⟨_, e, hne⟩
  · exact absurd e hk
  · exact splits_done e hne h.n h.a
end Go.Proofs.YtiomhdanmcnaeaaGreatDoor
