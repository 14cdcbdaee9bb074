/- PLAIN: names that are put and dropped again, and where each one stands. -/
import Derived.Test.YtnoidhfhnaemgaaDoorSo15
namespace Go.Proofs.YtnoidhfhnaemgaaDoor
open Go.RowKit

theorem RightP.apart {l : List Ent} (h : RightP l) {i j : Nat} (hi : i < l.length) (hj : j < l.length) (hij : i ≠ j) : l[i].1 ≠ l[j].1 := by
  intro e
  rcases Nat.lt_or_gt_of_ne hij with h1 | h1
  · have := List.pairwise_iff_getElem.1 h.up i j hi hj h1
    rw [e, bless_irrefl] at this
    cases this
  · have := List.pairwise_iff_getElem.1 h.up j i hj hi h1
    rw [e, bless_irrefl] at this
    cases this
theorem at_name {l : List Ent} {s : List UInt8} (h : atN l s < l.length) : (l[atN l s]).1 = s := by
  have h1 : isN s l[atN l s] = true := List.findIdx_getElem (w := h)
  simpa [isN] using h1
theorem cut_at {l : List Ent} {i : Nat} (h : i < l.length) : l = l.take i ++ l[i] :: l.drop (i + 1) := by
  rw [← List.drop_eq_getElem_cons h, List.take_append_drop]
/-- Those beside the one at a place have other names. -/
theorem mem_beside {l : List Ent} (h : RightP l) {i : Nat} (hi : i < l.length) (x : Ent) : x ∈ l.take i ++ l.drop (i + 1) ↔ x ∈ l ∧ x.1 ≠ l[i].1 := by
  constructor
  · intro hx
    rcases List.mem_append.1 hx with hx | hx
    · obtain ⟨k, hk, rfl⟩ := List.mem_take_iff_getElem.1 hx
      exact ⟨List.getElem_mem _, h.apart (by omega) hi (by omega)⟩
    · obtain ⟨k, hk, rfl⟩ := List.mem_drop_iff_getElem.1 hx
      exact ⟨List.getElem_mem _, h.apart (by omega) hi (by omega)⟩
  · rintro ⟨hx, hn⟩
    obtain ⟨k, hk, rfl⟩ := List.getElem_of_mem hx
    rcases Nat.lt_trichotomy k i with h1 | h1 | h1
    · exact List.mem_append_left _ (List.mem_take_iff_getElem.2 ⟨k, by omega, rfl⟩)
    · subst h1; exact absurd rfl hn
    · refine List.mem_append_right _ (List.mem_drop_iff_getElem.2 ⟨k - (i + 1), by omega, ?_⟩)
      congr 1
      omega
theorem RightP.sub {l m : List Ent} (h : RightP l) (s : m.Sublist l) : RightP m := ⟨fun e he => h.ok e (s.subset he), h.up.sublist s⟩
theorem mem_drop {l : List Ent} (h : RightP l) (s : List UInt8) (x : Ent) : x ∈ dropN l s ↔ x ∈ l ∧ x.1 ≠ s := by
  rw [dropN]
  split
  · rename_i hi
    rw [List.append_nil, mem_beside h hi, at_name hi]
  · rename_i hi
    exact ⟨fun hx => ⟨hx, fun e => hi (atN_yes hx e)⟩, fun hx => hx.1⟩
theorem drop_right {l : List Ent} (h : RightP l) (s : List UInt8) : RightP (dropN l s) := by
  rw [dropN]
  split
  · rename_i hi
    refine h.sub ?_
    rw [List.append_nil]
    conv => rhs; rw [cut_at hi]
    exact List.Sublist.append (List.Sublist.refl _) (List.sublist_cons_self _ _)
  · exact h
theorem drop_len {l : List Ent} (s : List UInt8) : (dropN l s).length + (if atN l s < l.length then 1 else 0) = l.length := by
  rw [dropN]
  split
  · rw [List.append_nil, List.length_append, List.length_take, List.length_drop]
    omega
  · rfl
theorem put_right {l : List Ent} {e : Ent} (h : RightP l) (he : OkN e) : RightP (putN l e) := by
  rw [putN]
  split
  · rename_i hi
    have hn := at_name hi
    obtain ⟨i, hie⟩ : ∃ i, atN l e.1 = i := ⟨_, rfl⟩
    simp only [hie] at hi hn ⊢
    have hm : (l.take i ++ [e] ++ l.drop (i + 1)).map (·.1) = l.map (·.1) := by
      conv => rhs; rw [cut_at hi]
      simp only [List.map_append, List.map_cons, hn, List.append_assoc, List.cons_append, List.nil_append]
    refine ⟨fun x hx => ?_, ?_⟩
    · rw [List.append_assoc] at hx
      rcases List.mem_append.1 hx with hx | hx
      · exact h.ok x (List.mem_of_mem_take hx)
      · rcases List.mem_append.1 hx with hx | hx
        · rw [List.mem_singleton] at hx; rw [hx]; exact he
        · exact h.ok x (List.mem_of_mem_drop hx)
    · have h1 : (l.map (·.1)).Pairwise fun a b => Op.bytesLess a b = true := List.pairwise_map.2 h.up
      rw [← hm] at h1
      exact List.pairwise_map.1 h1
  · rename_i hi
    exact put_in h he (fun x hx e => hi (atN_yes hx e))
theorem mem_put {l : List Ent} {e : Ent} (h : RightP l) (x : Ent) : x ∈ putN l e ↔ x = e ∨ (x ∈ l ∧ x.1 ≠ e.1) := by
  rw [putN]
  split
  · rename_i hi
    have h1 := mem_beside h hi x
    rw [at_name hi] at h1
    rw [← h1]
    simp only [List.mem_append, List.mem_singleton]
    constructor
    · rintro ((h | h) | h)
      · exact .inr (.inl h)
      · exact .inl h
      · exact .inr (.inr h)
    · rintro (h | h | h)
      · exact .inl (.inr h)
      · exact .inl (.inl h)
      · exact .inr h
  · rename_i hi
    have h2 : x ∈ l ↔ x ∈ l.take (behN l e.1) ∨ x ∈ l.drop (behN l e.1) := by
      rw [← List.mem_append, List.take_append_drop]
    have h3 : x ∈ l → x.1 ≠ e.1 := fun hx e => hi (atN_yes hx e)
    simp only [List.mem_append, List.mem_singleton]
    constructor
    · rintro ((h | h) | h)
      · exact .inr ⟨h2.2 (.inl h), h3 (h2.2 (.inl h))⟩
      · exact .inl h
      · exact .inr ⟨h2.2 (.inr h), h3 (h2.2 (.inr h))⟩
    · rintro (h | ⟨h, _⟩)
      · exact .inl (.inr h)
      · rcases h2.1 h with h | h
        · exact .inl (.inl h)
        · exact .inr h
theorem put_len {l : List Ent} (e : Ent) : (putN l e).length = l.length + (if atN l e.1 < l.length then 0 else 1) := by
  rw [putN]
  split
  · rw [List.length_append, List.length_append, List.length_take, List.length_drop, List.length_singleton]
    omega
  · have := behN_le l e.1
    rw [List.length_append, List.length_append, List.length_take, List.length_drop, List.length_singleton]
    omega
/-! ### where each one stands -/
def upL (S : List Int) : Nat := (S.filter fun x => decide (0 ≤ x)).length
theorem upL_set : ∀ {S : List Int} {k : Nat} {x : Int} (_ : S[k]? = some x) (v : Int), upL (S.set k v) + (if 0 ≤ x then 1 else 0) = upL S + (if 0 ≤ v then 1 else 0)
  | [], _, _, h, _ => by cases h
  | a :: S, 0, x, h, v => by
    simp at h
    subst h
    simp only [upL, List.set_cons_zero, List.filter_cons]
    by_cases h1 : 0 ≤ a <;> by_cases h2 : 0 ≤ v <;> simp [h1, h2]
  | a :: S, k + 1, x, h, v => by
    have ih := upL_set (S := S) (k := k) (x := x) (by simpa using h) v
    simp only [upL, List.set_cons_succ, List.filter_cons] at ih ⊢
    by_cases h1 : 0 ≤ a <;> simp [h1] at ih ⊢ <;> omega
structure Kp (M : List Ent) (N : List (List UInt8)) (S : List Int) : Prop where
  right : RightP M
  len : S.length = N.length
  one : N.Nodup
  okn : ∀ s ∈ N, nameB s = true
  rng : ∀ x ∈ S, -1 ≤ x ∧ x < 65536
  has : ∀ e : Ent, e ∈ M ↔ ∃ k : Nat, N[k]? = some e.1 ∧ S[k]? = some e.2 ∧ 0 ≤ e.2
  cnt : M.length = upL S
theorem Kp.nil : Kp [] [] [] := ⟨RightP.nil, rfl, List.nodup_nil, (fun s hs => by cases hs), (fun s hs => by cases hs), fun e => ⟨(fun h => by cases h), fun ⟨k, h, _⟩ => by cases h⟩, rfl⟩
theorem Kp.name {M : List Ent} {N : List (List UInt8)} {S : List Int} (h : Kp M N S) {s : List UInt8} (hs : s ∉ N) (hn : nameB s = true) : Kp M (N ++ [s]) (S ++ [-1]) := by
  refine ⟨h.right, by rw [List.length_append, List.length_append, h.len]; rfl, List.nodup_append.2 ⟨h.one, List.nodup_cons.2 ⟨by simp, List.nodup_nil⟩, fun a ha b hb e => by rw [List.mem_singleton] at hb; exact hs (by rw [← hb, ← e]; exact ha)⟩, fun t ht => ?_, fun x hx => ?_, fun e => ?_, ?_⟩
  · rcases List.mem_append.1 ht with ht | ht
    · exact h.okn t ht
    · rw [List.mem_singleton] at ht; rw [ht]; exact hn
  · rcases List.mem_append.1 hx with hx | hx
    · exact h.rng x hx
    · rw [List.mem_singleton] at hx; omega
  · rw [h.has]
    constructor
    · rintro ⟨k, h1, h2, h3⟩
      exact ⟨k, by rw [List.getElem?_append_left (List.getElem?_eq_some_iff.1 h1).1]; exact h1, by rw [List.getElem?_append_left (List.getElem?_eq_some_iff.1 h2).1]; exact h2, h3⟩
    · rintro ⟨k, h1, h2, h3⟩
      rcases Nat.lt_or_ge k S.length with h4 | h4
      · rw [List.getElem?_append_left (by rw [← h.len]; exact h4)] at h1
        rw [List.getElem?_append_left h4] at h2
        exact ⟨k, h1, h2, h3⟩
      · rw [List.getElem?_append_right h4] at h2
        rcases Nat.eq_zero_or_pos (k - S.length) with h5 | h5
        · rw [h5] at h2
          have h6 : (-1 : Int) = e.2 := by simpa using h2
          omega
        · rw [List.getElem?_eq_none (by simp; omega)] at h2
          cases h2
  · rw [h.cnt, upL, upL, List.filter_append, List.length_append]
    rfl
theorem Kp.inj {M : List Ent} {N : List (List UInt8)} {S : List Int} (h : Kp M N S) {i j : Nat} {s : List UInt8} (hi : N[i]? = some s) (hj : N[j]? = some s) : i = j := by
  obtain ⟨h1, e1⟩ := List.getElem?_eq_some_iff.1 hi
  obtain ⟨h2, e2⟩ := List.getElem?_eq_some_iff.1 hj
  exact (List.getElem_inj h.one).1 (e1.trans e2.symm)
/-- Whether a name is found. -/
theorem Kp.found {M : List Ent} {N : List (List UInt8)} {S : List Int} (h : Kp M N S) {k : Nat} {s : List UInt8} {x : Int} (hk : N[k]? = some s) (hx : S[k]? = some x) : (0 ≤ x → (s, x) ∈ M) ∧ (atN M s < M.length ↔ 0 ≤ x) := by
  have h1 : 0 ≤ x → (s, x) ∈ M := fun h0 => (h.has (s, x)).2 ⟨k, hk, hx, h0⟩
  refine ⟨h1, fun h2 => ?_, fun h0 => atN_yes (h1 h0) rfl⟩
  obtain ⟨j, h3, h4, h5⟩ := (h.has M[atN M s]).1 (List.getElem_mem h2)
  rw [at_name h2] at h3
  obtain rfl := h.inj h3 hk
  obtain rfl := Option.some.inj (h4.symm.trans hx)
  exact h5
theorem Kp.find {M : List Ent} {N : List (List UInt8)} {S : List Int} (h : Kp M N S) {k : Nat} {s : List UInt8} {x : Int} (hk : N[k]? = some s) (hx : S[k]? = some x) : findN M s = if 0 ≤ x then (x, true) else (0, false) := by
  obtain ⟨_, h2⟩ := h.found hk hx
  rw [findN]
  by_cases h0 : 0 ≤ x
  · have h3 := h2.2 h0
    rw [if_pos h3, if_pos h0, findX, getD_of (List.getElem?_eq_getElem h3)]
    obtain ⟨j, h4, h5, _⟩ := (h.has M[atN M s]).1 (List.getElem_mem h3)
    rw [at_name h3] at h4
    obtain rfl := h.inj h4 hk
    rw [Option.some.inj (h5.symm.trans hx)]
  · rw [if_neg (fun e => h0 (h2.1 e)), if_neg h0]
theorem Kp.set {M M' : List Ent} {N : List (List UInt8)} {S : List Int} (h : Kp M N S) {k : Nat} {s : List UInt8} {x : Int} (hk : N[k]? = some s) (hx : S[k]? = some x) {v : Int} (hv : -1 ≤ v ∧ v < 65536) (hr : RightP M')
    (hm : ∀ e : Ent, e ∈ M' ↔ (e = (s, v) ∧ 0 ≤ v) ∨ (e ∈ M ∧ e.1 ≠ s)) (hc : M'.length + (if 0 ≤ x then 1 else 0) = M.length + (if 0 ≤ v then 1 else 0)) : Kp M' N (S.set k v) := by
  have hkl := (List.getElem?_eq_some_iff.1 hx).1
  refine ⟨hr, by rw [List.length_set]; exact h.len, h.one, h.okn, fun y hy => ?_, fun e => ?_, ?_⟩
  · rcases List.mem_or_eq_of_mem_set hy with hy | rfl
    · exact h.rng y hy
    · exact hv
  · rw [hm, h.has]
    constructor
    · rintro (⟨rfl, h0⟩ | ⟨⟨j, h1, h2, h3⟩, h4⟩)
      · exact ⟨k, hk, by rw [List.getElem?_set_self hkl], h0⟩
      · have hjk : k ≠ j := fun e => by subst e; exact h4 (Option.some.inj (h1.symm.trans hk))
        exact ⟨j, h1, by rw [List.getElem?_set_ne hjk]; exact h2, h3⟩
    · rintro ⟨j, h1, h2, h3⟩
      by_cases hjk : k = j
      · subst hjk
        rw [List.getElem?_set_self hkl] at h2
        have e1 : e.1 = s := Option.some.inj (h1.symm.trans hk)
        have e2 : v = e.2 := Option.some.inj h2
        exact .inl ⟨Prod.ext e1 e2.symm, by omega⟩
      · rw [List.getElem?_set_ne hjk] at h2
        exact .inr ⟨⟨j, h1, h2, h3⟩, fun e1 => hjk (h.inj hk (by rw [← e1]; exact h1))⟩
  · have := upL_set hx v
    have := h.cnt
    omega
theorem Kp.put {M : List Ent} {N : List (List UInt8)} {S : List Int} (h : Kp M N S) {k : Nat} {s : List UInt8} {x : Int} (hk : N[k]? = some s) (hx : S[k]? = some x) {v : Int} (h0 : 0 ≤ v) (h1 : v < 65536) : Kp (putN M (s, v)) N (S.set k v) := by
  refine h.set hk hx ⟨by omega, h1⟩ (put_right h.right ⟨h.okn s (List.mem_of_getElem? hk), h0, h1⟩) (fun e => ?_) ?_
  · rw [mem_put h.right]
    constructor
    · rintro (h2 | h2)
      · exact .inl ⟨h2, h0⟩
      · exact .inr h2
    · rintro (⟨h2, _⟩ | h2)
      · exact .inl h2
      · exact .inr h2
  · have h2 := (h.found hk hx).2
    rw [put_len, if_pos h0]
    by_cases h3 : 0 ≤ x
    · rw [if_pos h3, if_pos (h2.2 h3)]
    · rw [if_neg h3, if_neg (fun e => h3 (h2.1 e))]
theorem Kp.drop {M : List Ent} {N : List (List UInt8)} {S : List Int} (h : Kp M N S) {k : Nat} {s : List UInt8} {x : Int} (hk : N[k]? = some s) (hx : S[k]? = some x) : Kp (dropN M s) N (S.set k (-1)) ∧ hasN15 M s = decide (0 ≤ x) := by
  have h2 := (h.found hk hx).2
  refine ⟨h.set hk hx ⟨by omega, by omega⟩ (drop_right h.right s) (fun e => ?_) ?_, decide_eq_decide.2 h2⟩
  · rw [mem_drop h.right]
    constructor
    · exact fun h3 => .inr h3
    · rintro (⟨_, h3⟩ | h3)
      · omega
      · exact h3
  · have h3 := drop_len (l := M) s
    rw [if_neg (show ¬ (0 : Int) ≤ -1 by omega)]
    by_cases h4 : 0 ≤ x
    · rw [if_pos (h2.2 h4)] at h3
      rw [if_pos h4]
      omega
    · rw [if_neg (fun e => h4 (h2.1 e))] at h3
      rw [if_neg h4]
      omega
end Go.Proofs.YtnoidhfhnaemgaaDoor
