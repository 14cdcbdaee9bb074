/- What is counted, and what is left, where a node's messages are lost. -/
import Derived.Test.YtakhhpakajafkaaTwo05
import Derived.Test.YtakhhpakajafkaaSame05
namespace Go.Proofs.Ytakhhpakajafkaa
open Go.RowKit

theorem sum_put (s : NS) {k : Nat} (l : List (List UInt8)) : ∀ n, k < n → sum (s.put k l) n + (s k).length = sum s n + l.length
  | 0, h => by omega
  | n + 1, h => by
    by_cases e : k = n
    · subst e
      have hsame : ∀ m, m ≤ k → sum (s.put k l) m = sum s m := fun m => by
        induction m with
        | zero => intro _; rfl
        | succ m ih => intro hm; rw [sum, sum, ih (by omega), NS.put_other _ _ (by omega)]
      rw [sum, sum, hsame k (Nat.le_refl _), NS.put_same]
      omega
    · have := sum_put s (k := k) l n (by omega)
      rw [sum, sum, NS.put_other _ _ (fun h => e h.symm)]
      omega
theorem voidN_put (s : NS) (d : Int) {k : Nat} (l : List (List UInt8)) : ∀ n, k < n → voidN (s.put k l) d n + (if hitB d k = true then (s k).length else 0) = voidN s d n + (if hitB d k = true then l.length else 0)
  | 0, h => by omega
  | n + 1, h => by
    by_cases e : k = n
    · subst e
      have hsame : ∀ m, m ≤ k → voidN (s.put k l) d m = voidN s d m := fun m => by
        induction m with
        | zero => intro _; rfl
        | succ m ih => intro hm; rw [voidN, voidN, ih (by omega), NS.put_other _ _ (by omega)]
      rw [voidN, voidN, hsame k (Nat.le_refl _), NS.put_same]
      split <;> omega
    · have := voidN_put s d (k := k) l n (by omega)
      rw [voidN, voidN, NS.put_other _ _ (fun h => e h.symm)]
      omega
theorem le_sum (s : NS) {k : Nat} : ∀ n, k < n → (s k).length ≤ sum s n
  | 0, h => by omega
  | n + 1, h => by
    rw [sum]
    by_cases e : k = n
    · subst e; omega
    · have := le_sum s n (k := k) (by omega); omega
theorem hit_at (d : Nat) {i j : Nat} (hj : j < 8) : hitB (d : Int) (8 * i + j) = (((i : Int) == (d : Int)) || ((j : Int) == (d : Int))) := by
  unfold hitB
  rw [show ((8 * i + j : Nat) : Int) / 8 = (i : Int) by omega, show ((8 * i + j : Nat) : Int) % 8 = (j : Int) by omega]
/-- A message sent where there is room. -/
theorem sent_room {s : NS} {i j : Nat} (hi : i < 8) (hj : j < 8) (hne : i ≠ j) {z : List UInt8} (hz : z.length ≤ 2000) (hs : sum s 64 < 200) :
    sendB s i j z = true ∧ sendS s i j z = s.put (8 * i + j) (s (8 * i + j) ++ [z]) ∧ sum (sendS s i j z) 64 = sum s 64 + 1 := by
  have hk : 8 * i + j < 64 := by omega
  have h1 := le_sum s 64 hk
  have hb : sendB s i j z = true := by
    simp [sendB, onL_nat s hi hj hne, link_true hi hj hne, hz]; omega
  have hS : sendS s i j z = s.put (8 * i + j) (s (8 * i + j) ++ [z]) := by rw [sendS, if_pos hb, onL_nat s hi hj hne, toL_nat s hi hj hne]
  refine ⟨hb, hS, ?_⟩
  rw [hS]
  have := sum_put s (k := 8 * i + j) (s (8 * i + j) ++ [z]) 64 hk
  rw [List.length_append, List.length_singleton] at this
  omega
theorem sent_self (s : NS) (i : Nat) (z : List UInt8) : sendB s i i z = false ∧ sendS s i i z = s := by
  have hl : linkB (i : Int) (i : Int) = false := by simp [linkB]
  have hb : sendB s i i z = false := by simp [sendB, hl]
  exact ⟨hb, by rw [sendS, if_neg (by rw [hb]; decide)]⟩
theorem sent_void {s : NS} {i j d : Nat} (hi : i < 8) (hj : j < 8) (z : List UInt8) :
    voidN (s.put (8 * i + j) (s (8 * i + j) ++ [z])) (d : Int) 64 = voidN s (d : Int) 64 + (if (((i : Int) == (d : Int)) || ((j : Int) == (d : Int))) = true then 1 else 0) := by
  have := voidN_put s (d : Int) (k := 8 * i + j) (s (8 * i + j) ++ [z]) 64 (by omega)
  rw [hit_at d hj, List.length_append, List.length_singleton] at this
  split at this
  · rename_i h; rw [if_pos h]; omega
  · rename_i h; rw [if_neg h]; omega
/-- Is a parcel none of a node's? -/
def farB (d : Int) (p : Pcl) : Bool := !(p.1 == d) && !(p.2.1 == d)
theorem onK_far (s : NS) (d : Int) (k : Nat) : (onK s k).filter (farB d) = if hitB d k = true then [] else onK s k := by
  unfold onK
  have e : ∀ t : List UInt8, farB d (((k / 8 : Nat) : Int), ((k % 8 : Nat) : Int), t) = !hitB d k := fun t => by
    unfold farB hitB
    rw [Bool.not_or]
    rfl
  rw [List.filter_map]
  by_cases h : hitB d k = true
  · rw [if_pos h]
    have : (s k).filter (farB d ∘ fun t => (((k / 8 : Nat) : Int), ((k % 8 : Nat) : Int), t)) = [] := by
      rw [List.filter_eq_nil_iff]
      intro t _
      show ¬ farB d (((k / 8 : Nat) : Int), ((k % 8 : Nat) : Int), t) = true
      rw [e t, h]; decide
    rw [this]; rfl
  · rw [if_neg h]
    have : (s k).filter (farB d ∘ fun t => (((k / 8 : Nat) : Int), ((k % 8 : Nat) : Int), t)) = s k := by
      rw [List.filter_eq_self]
      intro t _
      show farB d (((k / 8 : Nat) : Int), ((k % 8 : Nat) : Int), t) = true
      rw [e t]; simpa using h
    rw [this]
theorem all_far (s : NS) (d : Int) : ∀ n m, n ≤ m → allN (voidS s d m) n = (allN s n).filter (farB d)
  | 0, _, _ => rfl
  | n + 1, m, h => by
    rw [allN, allN, all_far s d n m (by omega), List.filter_append, onK_far]
    congr 1
    unfold onK voidS
    by_cases hh : hitB d n = true
    · rw [if_pos ⟨by omega, hh⟩, if_pos hh]; rfl
    · rw [if_neg (fun h => hh h.2), if_neg hh]
theorem void_again (s : NS) (d : Int) : ∀ n m, n ≤ m → voidN (voidS s d m) d n = 0
  | 0, _, _ => rfl
  | n + 1, m, h => by
    rw [voidN, void_again s d n m (by omega)]
    by_cases hh : hitB d n = true
    · rw [if_pos hh]; simp [voidS, hh]; omega
    · rw [if_neg hh]
theorem void_none (d : Int) : ∀ n, voidN NS.none d n = 0
  | 0 => rfl
  | n + 1 => by rw [voidN, void_none d n]; simp [NS.none]
theorem sum_none : ∀ n, sum NS.none n = 0
  | 0 => rfl
  | n + 1 => by rw [sum, sum_none n]; rfl
theorem all_sum (s : NS) : ∀ n, (allN s n).length = sum s n
  | 0 => rfl
  | n + 1 => by rw [allN, sum, List.length_append, all_sum s n, onK_length]
theorem filter_next (f : Pcl → Bool) {L : List Pcl} {k : Nat} (h : k < L.length) : (L.take (k + 1)).filter f = (L.take k).filter f ++ (if f L[k] = true then [L[k]] else []) := by
  rw [List.take_succ_eq_append_getElem h, List.filter_append, List.filter_cons, List.filter_nil]
/-- A network beside blocks that are newer than it. -/
theorem Own.wider {W u w : World} {b : Nat} {s : NS} (h : Own W u b s (fun _ => False)) (m : Below u.heap.size u w) {T : Nat → Prop} (hT : ∀ g, T g → u.heap.size ≤ g ∧ g < w.heap.size) : Own W w b s T := by
  obtain ⟨ρ, h1, h2, h3, _⟩ := h
  exact ⟨ρ, h1.below m, fun g hg => ⟨(h2 g hg).1, fun ht => by have := h1.top g hg; have := (hT g ht).1; omega⟩, bnext h3 m, fun g hg => (hT g hg).2⟩
theorem Ps.own {B : Nat} {w : World} {v : Value} {l : List Pcl} (h : Ps B w v l) {g : Nat} (hg : v.ownBlock = some g) : B ≤ g ∧ g < w.heap.size := by
  rcases h.2 with ⟨rfl, _⟩ | ⟨g', cap, cur, rfl, hb, hc, _⟩
  · simp [Value.ownBlock] at hg
  · obtain rfl : g' = g := by simpa [Value.ownBlock] using hg
    exact ⟨hb, (Array.getElem?_eq_some_iff.1 hc).1⟩
end Go.Proofs.Ytakhhpakajafkaa
