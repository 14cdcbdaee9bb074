/- A network of which two links have messages. -/
import Derived.Test.YtakhhpakajafkaaLk05
namespace Go.Proofs.Ytakhhpakajafkaa
open Go.RowKit

/-- What waits from 0 to 1, and from 1 to 0. -/
def two (a c : List (List UInt8)) : NS := fun i => if i = 1 then a else if i = 8 then c else []
theorem two_nil : two [] [] = NS.none := by funext i; simp [two, NS.none]
theorem two_on (a c : List (List UInt8)) : onL (two a c) 0 1 = a := rfl
theorem two_on' (a c : List (List UInt8)) : onL (two a c) 1 0 = c := rfl
theorem two_to (a c l : List (List UInt8)) : toL (two a c) 0 1 l = two l c := by
  have e : toL (two a c) 0 1 l = (two a c).put 1 l := rfl
  rw [e]
  funext i
  by_cases h : i = 1
  · subst h; rw [NS.put_same]; rfl
  · rw [NS.put_other _ _ h]; simp [two, h]
theorem two_to' (a c l : List (List UInt8)) : toL (two a c) 1 0 l = two a l := by
  have e : toL (two a c) 1 0 l = (two a c).put 8 l := rfl
  rw [e]
  funext i
  by_cases h : i = 8
  · subst h; rw [NS.put_same]; rfl
  · rw [NS.put_other _ _ h]; simp [two, h]
theorem link01 : linkB 0 1 = true := by decide
theorem link10 : linkB 1 0 = true := by decide
theorem two_send {a c : List (List UInt8)} {x : List UInt8} (hx : x.length ≤ 2000) (ha : a.length < 200) : sendB (two a c) 0 1 x = true ∧ sendS (two a c) 0 1 x = two (a ++ [x]) c := by
  have h : sendB (two a c) 0 1 x = true := by simp [sendB, two_on, link01, hx, ha]
  exact ⟨h, by rw [sendS, if_pos h, two_on, two_to]⟩
theorem two_send' {a c : List (List UInt8)} {x : List UInt8} (hx : x.length ≤ 2000) (hc : c.length < 200) : sendB (two a c) 1 0 x = true ∧ sendS (two a c) 1 0 x = two a (c ++ [x]) := by
  have h : sendB (two a c) 1 0 x = true := by simp [sendB, two_on', link10, hx, hc]
  exact ⟨h, by rw [sendS, if_pos h, two_on', two_to']⟩
/-- What a call on the first link leaves: the other one as it was, and not much more. -/
def Near (a : List (List UInt8)) (c : List (List UInt8)) (s : NS) : Prop := ∃ a', s = two a' c ∧ a'.length ≤ a.length + 1
theorem two_take (a c : List (List UInt8)) (x : Int) : Near a c (tkS (two a c) 0 1 x) :=
  ⟨_, by rw [tkS, two_to], by rw [two_on, List.length_eraseIdx]; split <;> omega⟩
theorem two_double (a c : List (List UInt8)) (x : Int) : Near a c (dbS (two a c) 0 1 x) := by
  unfold dbS
  split
  · exact ⟨_, by rw [two_to], by rw [two_on]; simp⟩
  · exact ⟨a, rfl, by omega⟩
theorem two_take0 (a c : List (List UInt8)) (n : Nat) (hn : n < c.length) : tkT (two a (c.drop n)) 1 0 0 = nth c n ∧ tkS (two a (c.drop n)) 1 0 0 = two a (c.drop (n + 1)) ∧ tkB (two a (c.drop n)) 1 0 = true := by
  have e : wh 0 (c.drop n).length = 0 := by
    have : wh ((0 : Nat) : Int) (c.drop n).length = 0 := by rw [wh_nat]; exact Nat.zero_mod _
    exact this
  refine ⟨?_, ?_, ?_⟩
  · rw [tkT, two_on', e]
    simp [nth]
  · rw [tkS, two_on', e, two_to', List.eraseIdx_zero, List.tail_drop]
  · rw [tkB, two_on']
    simp; omega
theorem two_voidN (a : List (List UInt8)) : ∀ n, voidN (two a []) 1 n = if 1 < n then a.length else 0
  | 0 => rfl
  | 1 => by simp [voidN, hitB]
  | n + 2 => by
    rw [voidN, two_voidN a (n + 1)]
    by_cases h : n = 0
    · subst h; simp [hitB, two]
    · have e : (two a [] (n + 1)).length = 0 := by simp [two, h]
      rw [e, ite_self, if_pos (show 1 < n + 1 by omega), if_pos (show 1 < n + 2 by omega)]
      rfl
theorem two_voidS (a : List (List UInt8)) : voidS (two a []) 1 64 = NS.none := by
  funext i
  by_cases h : i = 1
  · subst h; simp [voidS, hitB, NS.none]
  · simp [voidS, two, h, NS.none]
theorem none_all : allN NS.none 64 = [] := rfl
/-- What is carried through the statement's first calls. -/
structure Both (W w : World) (b : Nat) (v : Value) (m : Nat) (c : List (List UInt8)) : Prop where
  net : ∃ a, a.length ≤ m ∧ Beside W w b (two a c) v c
  le : c.length ≤ m
end Go.Proofs.Ytakhhpakajafkaa
