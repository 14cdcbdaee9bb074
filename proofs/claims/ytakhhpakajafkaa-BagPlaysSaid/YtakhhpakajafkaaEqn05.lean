/- The two networks hold the same (plain). -/
import Derived.Test.YtakhhpakajafkaaRnF05
namespace Go.Proofs.Ytakhhpakajafkaa
open Go.RowKit

structure EqN (s : NS) (L : List Pcl) : Prop where
  on : ∀ k, k < 64 → onK s k = L.filter (onB ((k / 8 : Nat) : Int) ((k % 8 : Nat) : Int))
  perm : SameAs L s
  diag : ∀ i, i < 8 → s (9 * i) = []
  most : ∀ k, (s k).length ≤ 200
theorem eqn_none : EqN NS.none [] := ⟨fun _ _ => rfl, SameAs.none, fun _ _ => rfl, fun _ => Nat.zero_le _⟩
theorem pAtN_at {i j : Nat} (hj : j < 8) (t : List UInt8) : pAtN (8 * i + j) t = ((i : Int), (j : Int), t) := by
  unfold pAtN
  rw [show (8 * i + j) / 8 = i by omega, show (8 * i + j) % 8 = j by omega]
theorem mem_allN {s : NS} {p : Pcl} : ∀ n, p ∈ allN s n → ∃ k, k < n ∧ ∃ t ∈ s k, p = pAtN k t
  | 0, h => by cases h
  | n + 1, h => by
    rw [allN, List.mem_append] at h
    rcases h with h | h
    · obtain ⟨k, hk, h⟩ := mem_allN n h
      exact ⟨k, by omega, h⟩
    · unfold onK at h
      obtain ⟨t, ht, rfl⟩ := List.mem_map.1 h
      exact ⟨n, by omega, t, ht, rfl⟩
section
variable {s : NS} {L : List Pcl}
theorem EqN.mem (h : EqN s L) {p : Pcl} (hp : p ∈ L) : ∃ i j : Nat, i < 8 ∧ j < 8 ∧ i ≠ j ∧ p.1 = (i : Int) ∧ p.2.1 = (j : Int) := by
  obtain ⟨k, hk, t, ht, rfl⟩ := mem_allN 64 ((h.perm.perm.mem_iff).1 hp)
  refine ⟨k / 8, k % 8, by omega, by omega, fun e => ?_, rfl, rfl⟩
  have h1 := h.diag (k / 8) (by omega)
  rw [show 9 * (k / 8) = k by omega] at h1
  rw [h1] at ht
  cases ht
theorem EqN.onNat (h : EqN s L) {i j : Nat} (hi : i < 8) (hj : j < 8) : (s (8 * i + j)).map (fun t => ((i : Int), (j : Int), t)) = L.filter (onB (i : Int) (j : Int)) := by
  have h1 := h.on (8 * i + j) (by omega)
  rw [show (8 * i + j) / 8 = i by omega, show (8 * i + j) % 8 = j by omega] at h1
  rw [← h1, onK]
  rw [show (8 * i + j) / 8 = i by omega, show (8 * i + j) % 8 = j by omega]
theorem EqN.far (h : EqN s L) {i j : Int} (hl : linkB i j = false) : L.filter (onB i j) = [] := by
  rw [List.filter_eq_nil_iff]
  intro p hp hon
  obtain ⟨a, b, ha, hb, hne, e1, e2⟩ := h.mem hp
  simp only [onB, Bool.and_eq_true, beq_iff_eq] at hon
  rw [← hon.1, ← hon.2, e1, e2] at hl
  have : linkB (a : Int) (b : Int) = true := by simp [linkB, nodeB]; omega
  rw [this] at hl
  cases hl
theorem EqN.cnt (h : EqN s L) (i j : Int) : cntR L i j = (onL s i j).length := by
  cases hl : linkB i j with
  | false => rw [cntR, h.far hl, onL_no s hl]; rfl
  | true =>
    obtain ⟨a, b, rfl, rfl, ha, hb, hne⟩ := link_nat hl
    rw [cntR, ← h.onNat ha hb, onL_nat s ha hb hne, List.length_map]
theorem EqN.all (h : EqN s L) : ∀ n, n ≤ 64 → allR L n = allN s n
  | 0, _ => rfl
  | n + 1, hn => by rw [allR, allN, h.all n (by omega), h.on n (by omega)]
theorem EqN.sum (h : EqN s L) : Go.Proofs.Ytakhhpakajafkaa.sum s 64 = L.length := h.perm.sum
theorem sum_bound {s : NS} (h : ∀ k, (s k).length ≤ 200) : ∀ n, Go.Proofs.Ytakhhpakajafkaa.sum s n ≤ 200 * n
  | 0 => Nat.le_refl _
  | n + 1 => by have h1 := sum_bound h n; have h2 := h n; simp only [Go.Proofs.Ytakhhpakajafkaa.sum]; omega
theorem EqN.len (h : EqN s L) : L.length ≤ 12800 := by
  have h1 := h.sum
  have h2 := sum_bound h.most 64
  omega
/-- There is room for one more where a link has less than 200. -/
theorem EqN.room (h : EqN s L) : L.length < 12800 := by
  have h1 := h.sum
  have h2 : Go.Proofs.Ytakhhpakajafkaa.sum s 64 ≤ 200 * 63 := by
    have key : ∀ n, 1 ≤ n → Go.Proofs.Ytakhhpakajafkaa.sum s n ≤ 200 * (n - 1) := by
      intro n
      induction n with
      | zero => intro h; omega
      | succ n ih =>
        intro _
        simp only [Go.Proofs.Ytakhhpakajafkaa.sum]
        by_cases e : n = 0
        · subst e
          have := h.diag 0 (by omega)
          simp only [Nat.mul_zero] at this
          simp [Go.Proofs.Ytakhhpakajafkaa.sum, this]
        · have h3 := ih (by omega)
          have h4 := h.most n
          omega
    exact key 64 (by omega)
  omega
theorem onK_put (s : NS) (k : Nat) (l : List (List UInt8)) (k' : Nat) : onK (s.put k l) k' = if k' = k then l.map (fun t => (((k / 8 : Nat) : Int), ((k % 8 : Nat) : Int), t)) else onK s k' := by
  by_cases e : k' = k
  · subst e; rw [if_pos rfl, onK, NS.put_same]
  · rw [if_neg e, onK, NS.put_other _ _ e]; rfl
theorem onB_other {i j k' : Nat} (_ : i < 8) (_ : j < 8) (_ : k' < 64) (e : k' ≠ 8 * i + j) (t : List UInt8) : onB ((k' / 8 : Nat) : Int) ((k' % 8 : Nat) : Int) ((i : Int), (j : Int), t) = false := by
  simp only [onB, Bool.and_eq_false_iff, beq_eq_false_iff_ne]
  by_cases h1 : (i : Int) = ((k' / 8 : Nat) : Int)
  · right
    omega
  · exact .inl h1
theorem eqn_send (h : EqN s L) {i j : Nat} (hi : i < 8) (hj : j < 8) (hne : i ≠ j) (hc : (s (8 * i + j)).length < 200) (t : List UInt8) : EqN (s.put (8 * i + j) (s (8 * i + j) ++ [t])) (L ++ [((i : Int), (j : Int), t)]) := by
  refine ⟨fun k hk => ?_, h.perm.sent hi hj t, fun a ha => ?_, fun k => ?_⟩
  · rw [onK_put, List.filter_append]
    by_cases e : k = 8 * i + j
    · subst e
      rw [if_pos rfl, List.map_append]
      have h1 := h.on (8 * i + j) hk
      rw [← h1, onK]
      congr 1
      rw [show (8 * i + j) / 8 = i by omega, show (8 * i + j) % 8 = j by omega]
      simp [onB]
    · rw [if_neg e, h.on k hk, List.filter_cons_of_neg (by rw [onB_other hi hj hk e]; decide)]
      simp
  · rw [NS.put_other _ _ (by omega)]; exact h.diag a ha
  · by_cases e : k = 8 * i + j
    · subst e; rw [NS.put_same]; simp; omega
    · rw [NS.put_other _ _ e]; exact h.most k
theorem map_erase {α β : Type} (f : α → β) : ∀ (l : List α) (m : Nat), (l.eraseIdx m).map f = (l.map f).eraseIdx m
  | [], _ => by simp
  | a :: l, 0 => by simp
  | a :: l, m + 1 => by simp [map_erase f l m]
theorem EqN.spot (h : EqN s L) {i j : Nat} (hi : i < 8) (hj : j < 8) {m p : Nat} (hs : Spot L i j m p) : ∃ hm : m < (s (8 * i + j)).length, ∃ hp : p < L.length, L[p] = ((i : Int), (j : Int), (s (8 * i + j))[m]) := by
  have h1 := spot_get hs
  obtain ⟨hp, _, _⟩ := hs
  rw [← h.onNat hi hj, List.getElem?_map, List.getElem?_eq_getElem hp] at h1
  cases hg : (s (8 * i + j))[m]? with
  | none => rw [hg] at h1; cases h1
  | some t =>
    rw [hg] at h1
    obtain ⟨hm, e⟩ := List.getElem?_eq_some_iff.1 hg
    refine ⟨hm, hp, ?_⟩
    simp only [Option.map_some, Option.some.injEq] at h1
    rw [← h1, e]
theorem eqn_erase (h : EqN s L) {i j : Nat} (hi : i < 8) (hj : j < 8) {m p : Nat} (hs : Spot L i j m p) : EqN (s.put (8 * i + j) ((s (8 * i + j)).eraseIdx m)) (L.eraseIdx p) := by
  obtain ⟨hm, hp, e⟩ := h.spot hi hj hs
  refine ⟨fun k hk => ?_, ⟨?_⟩, fun a ha => ?_, fun k => ?_⟩
  · rw [onK_put]
    by_cases ek : k = 8 * i + j
    · subst ek
      rw [if_pos rfl, map_erase]
      have h1 := h.on (8 * i + j) hk
      rw [onK] at h1
      rw [h1]
      rw [show (8 * i + j) / 8 = i by omega, show (8 * i + j) % 8 = j by omega]
      exact (spot_erase hs).symm
    · rw [if_neg ek, h.on k hk]
      exact (erase_other hp (by rw [e]; exact onB_other hi hj hk ek _)).symm
  · refine perm_found h.perm.perm (allN_erase s (k := 8 * i + j) hm 64 (by omega)) hp ?_
    rw [e, pAtN_at hj, nth_get hm]
  · by_cases ek : 9 * a = 8 * i + j
    · have h0 := h.diag a ha
      rw [ek] at h0
      rw [h0] at hm
      simp at hm
    · rw [NS.put_other _ _ ek]; exact h.diag a ha
  · by_cases ek : k = 8 * i + j
    · subst ek; rw [NS.put_same, List.length_eraseIdx]; have := h.most (8 * i + j); split <;> omega
    · rw [NS.put_other _ _ ek]; exact h.most k
theorem voidN_sum (s : NS) (d : Int) : ∀ n m, n ≤ m → voidN s d n + Go.Proofs.Ytakhhpakajafkaa.sum (voidS s d m) n = Go.Proofs.Ytakhhpakajafkaa.sum s n
  | 0, _, _ => rfl
  | n + 1, m, h => by
    have ih := voidN_sum s d n m (by omega)
    simp only [voidN, Go.Proofs.Ytakhhpakajafkaa.sum]
    by_cases hh : hitB d n = true
    · have e : voidS s d m n = [] := by simp [voidS, hh]; omega
      rw [if_pos hh, e]; simp; omega
    · have e : voidS s d m n = s n := by unfold voidS; rw [if_neg (fun h => hh h.2)]
      rw [if_neg hh, e]; omega
theorem eqn_void (h : EqN s L) (d : Int) : EqN (voidS s d 64) (L.filter (farB d)) := by
  refine ⟨fun k hk => ?_, ⟨?_⟩, fun a ha => ?_, fun k => ?_⟩
  · rw [List.filter_filter]
    have e : (fun p => onB ((k / 8 : Nat) : Int) ((k % 8 : Nat) : Int) p && farB d p) = fun p => farB d p && onB ((k / 8 : Nat) : Int) ((k % 8 : Nat) : Int) p := by funext p; exact Bool.and_comm _ _
    rw [e, ← List.filter_filter, ← h.on k hk, onK_far]
    by_cases hh : hitB d k = true
    · rw [if_pos hh, onK]; simp [voidS, hh]; omega
    · rw [if_neg hh, onK, onK]; unfold voidS; rw [if_neg (fun h => hh h.2)]
  · rw [all_far s d 64 64 (Nat.le_refl _)]
    exact h.perm.perm.filter _
  · unfold voidS; split
    · rfl
    · exact h.diag a ha
  · unfold voidS; split
    · simp
    · exact h.most k
theorem eqn_voidN (h : EqN s L) (d : Int) : voidN s d 64 = L.length - (L.filter (farB d)).length := by
  have h1 := voidN_sum s d 64 64 (Nat.le_refl _)
  have h2 := h.sum
  have h3 := (eqn_void h d).sum
  omega
end
end Go.Proofs.Ytakhhpakajafkaa
