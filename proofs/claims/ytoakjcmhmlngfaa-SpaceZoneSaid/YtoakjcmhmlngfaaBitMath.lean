/- Bits of a text, plainly: which is set, how a text is turned at one bit, the first one from a place on, how many, and which. -/
import Derived.Test.YtoakjcmhmlngfaaBase
namespace Go.Proofs.Ytoakjcmhmlngfaa.Bm

/-- Bit i of a text; none behind its end. -/
def bit (l : List UInt8) (i : Nat) : Bool := (l.getD (i / 8) 0).toNat.testBit (i % 8)
theorem bit_out {l : List UInt8} {i : Nat} (h : 8 * l.length ≤ i) : bit l i = false := by
  unfold bit
  have : l.getD (i / 8) 0 = 0 := by
    rw [List.getD_eq_getElem?_getD, List.getElem?_eq_none (by omega)]; rfl
  rw [this]
  simp
theorem bit_in {l : List UInt8} {i : Nat} (h : i < 8 * l.length) : bit l i = (l[i / 8]'(by omega)).toNat.testBit (i % 8) := by
  unfold bit
  rw [List.getD_eq_getElem?_getD, List.getElem?_eq_getElem (by omega)]; rfl
theorem testBit_u8 (b : UInt8) (k : Nat) (h : 8 ≤ k) : b.toNat.testBit k = false :=
  Nat.testBit_lt_two_pow (Nat.lt_of_lt_of_le b.toNat_lt (Nat.pow_le_pow_right (by omega) h))
theorem u8_ext {a b : UInt8} (h : ∀ k, k < 8 → a.toNat.testBit k = b.toNat.testBit k) : a = b := by
  apply UInt8.toNat_inj.1
  apply Nat.eq_of_testBit_eq
  intro k
  by_cases hk : k < 8
  · exact h k hk
  · rw [testBit_u8 a k (by omega), testBit_u8 b k (by omega)]
theorem ext {l m : List UInt8} (hl : l.length = m.length) (h : ∀ i, i < 8 * l.length → bit l i = bit m i) : l = m := by
  apply List.ext_getElem hl
  intro j h1 h2
  apply u8_ext
  intro k hk
  have := h (8 * j + k) (by omega)
  rw [bit_in (by omega), bit_in (by omega)] at this
  have e1 : (8 * j + k) / 8 = j := by omega
  have e2 : (8 * j + k) % 8 = k := by omega
  simp only [e1, e2] at this
  exact this
theorem bit_zeros (n i : Nat) : bit (List.replicate n 0) i = false := by
  unfold bit
  have : (List.replicate n (0 : UInt8)).getD (i / 8) 0 = 0 := by
    rw [List.getD_eq_getElem?_getD, List.getElem?_replicate]
    split <;> rfl
  rw [this]
  simp

/-- A byte of one bit. -/
def one (k : Nat) : UInt8 := UInt8.ofNat (2 ^ k)
theorem one_bit {k j : Nat} (hk : k < 8) : (one k).toNat.testBit j = decide (k = j) := by
  have e : (one k).toNat = 2 ^ k := by
    unfold one
    have : 2 ^ k ≤ 2 ^ 7 := Nat.pow_le_pow_right (by omega) (by omega)
    simp
    omega
  rw [e, Nat.testBit_two_pow]
def flip (l : List UInt8) (i : Nat) : List UInt8 := l.set (i / 8) (l.getD (i / 8) 0 ^^^ one (i % 8))
theorem flip_length (l : List UInt8) (i : Nat) : (flip l i).length = l.length := by simp [flip]
theorem bit_flip {l : List UInt8} {i : Nat} (h : i < 8 * l.length) (j : Nat) : bit (flip l i) j = if j = i then !bit l i else bit l j := by
  unfold bit flip
  by_cases e : j / 8 = i / 8
  · have e1 : (l.set (i / 8) (l.getD (i / 8) 0 ^^^ one (i % 8))).getD (j / 8) 0 = l.getD (i / 8) 0 ^^^ one (i % 8) := by
      rw [e, List.getD_eq_getElem?_getD, List.getElem?_set_self (by omega)]; rfl
    rw [e1, e, UInt8.toNat_xor, Nat.testBit_xor, one_bit (by omega)]
    by_cases ej : j = i
    · subst ej; simp
    · have : i % 8 ≠ j % 8 := by omega
      simp [ej, this]
  · have ej : j ≠ i := by rintro rfl; exact e rfl
    have e1 : (l.set (i / 8) (l.getD (i / 8) 0 ^^^ one (i % 8))).getD (j / 8) 0 = l.getD (j / 8) 0 := by
      rw [List.getD_eq_getElem?_getD, List.getElem?_set_ne (fun h => e h.symm), ← List.getD_eq_getElem?_getD]
    rw [e1, if_neg ej]
/-- A text with one bit taken, or not. -/
def set (l : List UInt8) (i : Nat) (t : Bool) : List UInt8 := if i < 8 * l.length ∧ bit l i ≠ t then flip l i else l
theorem set_length (l : List UInt8) (i : Nat) (t : Bool) : (set l i t).length = l.length := by
  unfold set; split
  · exact flip_length l i
  · rfl
theorem bit_set (l : List UInt8) (i : Nat) (t : Bool) (j : Nat) : bit (set l i t) j = if j = i ∧ i < 8 * l.length then t else bit l j := by
  unfold set
  by_cases h : i < 8 * l.length
  · by_cases h2 : bit l i = t
    · rw [if_neg (by simp [h2])]
      by_cases e : j = i
      · subst e; simp [h2]
      · simp [e]
    · rw [if_pos ⟨h, h2⟩, bit_flip h]
      have : (!bit l i) = t := by revert h2; cases bit l i <;> cases t <;> simp
      by_cases e : j = i
      · subst e; simp [h, this]
      · simp [e]
  · rw [if_neg (by simp [h]), if_neg (by simp [h])]
theorem set_out {l : List UInt8} {i : Nat} (h : 8 * l.length ≤ i) (t : Bool) : set l i t = l := if_neg (by omega)
theorem set_same {l : List UInt8} {i : Nat} : set l i (bit l i) = l := if_neg (by simp)

/-- The first place of so many, from one on, of which p says yes; -1, if there is none. -/
def seek (p : Nat → Bool) : Nat → Nat → Int
  | 0, _ => -1
  | n + 1, i => if p i then i else seek p n (i + 1)
theorem seek_skip (p : Nat → Bool) : ∀ (d n i : Nat), (∀ j, i ≤ j → j < i + d → p j = false) → seek p (d + n) i = seek p n (i + d)
  | 0, n, i, _ => by simp
  | d + 1, n, i, h => by
    have e : d + 1 + n = (d + n) + 1 := by omega
    rw [e, seek, if_neg (by simp [h i (Nat.le_refl _) (by omega)]), seek_skip p d n (i + 1) (fun j h1 h2 => h j (by omega) (by omega))]
    congr 1; omega
theorem seek_none {p : Nat → Bool} {n i : Nat} (h : ∀ j, i ≤ j → j < i + n → p j = false) : seek p n i = -1 := by
  have := seek_skip p n 0 i h
  rw [Nat.add_zero] at this
  rw [this]; rfl
theorem seek_some {p : Nat → Bool} {n i k : Nat} (h1 : i ≤ k) (h2 : k < i + n) (hk : p k = true) (h : ∀ j, i ≤ j → j < k → p j = false) : seek p n i = k := by
  have e : n = (k - i) + ((n - (k - i) - 1) + 1) := by omega
  rw [e, seek_skip p _ _ _ (fun j a b => h j a (by omega)), seek]
  have : i + (k - i) = k := by omega
  rw [this, if_pos hk]
theorem seek_cases (p : Nat → Bool) : ∀ (n i : Nat), (seek p n i = -1 ∧ ∀ j, i ≤ j → j < i + n → p j = false) ∨ ∃ k : Nat, seek p n i = k ∧ i ≤ k ∧ k < i + n ∧ p k = true ∧ ∀ j, i ≤ j → j < k → p j = false
  | 0, i => .inl ⟨rfl, fun j h1 h2 => by omega⟩
  | n + 1, i => by
    rw [seek]
    by_cases h : p i = true
    · rw [if_pos h]
      exact .inr ⟨i, rfl, Nat.le_refl _, by omega, h, fun j h1 h2 => by omega⟩
    · rw [if_neg h]
      have hi : p i = false := by simpa using h
      rcases seek_cases p n (i + 1) with ⟨e, a⟩ | ⟨k, e, h1, h2, hk, a⟩
      · refine .inl ⟨e, fun j b c => ?_⟩
        by_cases ej : j = i
        · subst ej; exact hi
        · exact a j (by omega) (by omega)
      · refine .inr ⟨k, e, by omega, by omega, hk, fun j b c => ?_⟩
        by_cases ej : j = i
        · subst ej; exact hi
        · exact a j (by omega) (by omega)
/-- The first bit from a place on that is taken, or that is not. -/
def next (l : List UInt8) (i : Nat) (t : Bool) : Int := seek (fun j => bit l j == t) (8 * l.length - i) i
theorem next_cases (l : List UInt8) (i : Nat) (t : Bool) : (next l i t = -1 ∧ ∀ j, i ≤ j → j < 8 * l.length → bit l j ≠ t) ∨ ∃ k : Nat, next l i t = k ∧ i ≤ k ∧ k < 8 * l.length ∧ bit l k = t ∧ ∀ j, i ≤ j → j < k → bit l j ≠ t := by
  rcases seek_cases (fun j => bit l j == t) (8 * l.length - i) i with ⟨e, a⟩ | ⟨k, e, h1, h2, hk, a⟩
  · exact .inl ⟨e, fun j b c => by have := a j b (by omega); simpa using this⟩
  · refine .inr ⟨k, e, h1, by omega, by simpa using hk, fun j b c => by have := a j b c; simpa using this⟩
theorem next_none {l : List UInt8} {i : Nat} {t : Bool} (h : ∀ j, i ≤ j → j < 8 * l.length → bit l j ≠ t) : next l i t = -1 :=
  seek_none fun j h1 h2 => by have := h j h1 (by omega); simpa using this
theorem next_some {l : List UInt8} {i k : Nat} {t : Bool} (h1 : i ≤ k) (h2 : k < 8 * l.length) (hk : bit l k = t) (h : ∀ j, i ≤ j → j < k → bit l j ≠ t) : next l i t = k :=
  seek_some h1 (by omega) (by simpa using hk) fun j a b => by have := h j a b; simpa using this
theorem next_lo (l : List UInt8) (i : Nat) (t : Bool) : -1 ≤ next l i t := by
  rcases next_cases l i t with ⟨e, _⟩ | ⟨k, e, _⟩ <;> omega
theorem next_hi (l : List UInt8) (i : Nat) (t : Bool) : next l i t ≤ 8 * l.length := by
  rcases next_cases l i t with ⟨e, _⟩ | ⟨k, e, _⟩ <;> omega

/-- The bits that are taken, rising. -/
def upto (l : List UInt8) (n : Nat) : List Nat := (List.range n).filter (bit l)
def each (l : List UInt8) : List Nat := upto l (8 * l.length)
theorem upto_succ (l : List UInt8) (n : Nat) : upto l (n + 1) = if bit l n then upto l n ++ [n] else upto l n := by
  unfold upto
  rw [List.range_succ, List.filter_append]
  by_cases h : bit l n = true <;> simp [h]
theorem upto_skip (l : List UInt8) (a : Nat) : ∀ d, (∀ j, a ≤ j → j < a + d → bit l j = false) → upto l (a + d) = upto l a
  | 0, _ => rfl
  | d + 1, h => by
    rw [← Nat.add_assoc, upto_succ, if_neg (by simp [h (a + d) (by omega) (by omega)]), upto_skip l a d (fun j h1 h2 => h j h1 (by omega))]
theorem upto_skip' {l : List UInt8} {a b : Nat} (hab : a ≤ b) (h : ∀ j, a ≤ j → j < b → bit l j = false) : upto l b = upto l a := by
  have := upto_skip l a (b - a) (fun j h1 h2 => h j h1 (by omega))
  rw [← this]; congr 1; omega
theorem upto_length (l : List UInt8) (n : Nat) : (upto l n).length ≤ n := by
  have := List.length_filter_le (bit l) (List.range n)
  simpa [upto] using this
theorem mem_upto {l : List UInt8} {n i : Nat} : i ∈ upto l n ↔ i < n ∧ bit l i = true := by simp [upto]
theorem upto_sorted (l : List UInt8) (n : Nat) : (upto l n).Pairwise (· < ·) := List.Pairwise.filter _ List.pairwise_lt_range
/-- How many bits of a byte are taken. -/
def pop (b : UInt8) : Nat := ((List.range 8).filter b.toNat.testBit).length
def count (l : List UInt8) : Nat := (each l).length
theorem bit_append (l m : List UInt8) (i : Nat) : bit (l ++ m) i = if i < 8 * l.length then bit l i else bit m (i - 8 * l.length) := by
  unfold bit
  by_cases h : i < 8 * l.length
  · rw [if_pos h, List.getD_eq_getElem?_getD, List.getElem?_append_left (by omega), ← List.getD_eq_getElem?_getD]
  · have e1 : (i - 8 * l.length) / 8 = i / 8 - l.length := by omega
    have e2 : (i - 8 * l.length) % 8 = i % 8 := by omega
    rw [if_neg h, List.getD_eq_getElem?_getD, List.getElem?_append_right (by omega), ← List.getD_eq_getElem?_getD, e1, e2]
theorem upto_congr {l m : List UInt8} {n : Nat} (h : ∀ i, i < n → bit l i = bit m i) : upto l n = upto m n := by
  unfold upto
  apply List.filter_congr
  intro i hi
  exact h i (by simpa using hi)
theorem upto_eight (l : List UInt8) (b : UInt8) : ∀ k, k ≤ 8 → (upto (l ++ [b]) (8 * l.length + k)).length = count l + ((List.range k).filter b.toNat.testBit).length
  | 0, _ => by
    rw [Nat.add_zero, upto_congr (m := l) (fun i hi => by rw [bit_append, if_pos hi])]
    simp [count, each]
  | k + 1, h => by
    have ih := upto_eight l b k (by omega)
    have e : bit (l ++ [b]) (8 * l.length + k) = b.toNat.testBit k := by
      rw [bit_append, if_neg (by omega)]
      have e1 : 8 * l.length + k - 8 * l.length = k := by omega
      rw [e1, bit_in (by simp; omega)]
      have e2 : k / 8 = 0 := by omega
      have e3 : k % 8 = k := by omega
      simp only [e2, e3]
      rfl
    rw [← Nat.add_assoc, upto_succ, e, List.range_succ, List.filter_append]
    by_cases hb : b.toNat.testBit k = true
    · simp [hb, ih]; omega
    · simp [hb, ih]
theorem count_snoc (l : List UInt8) (b : UInt8) : count (l ++ [b]) = count l + pop b := by
  have := upto_eight l b 8 (by omega)
  unfold count each at this ⊢
  rw [List.length_append, List.length_singleton, Nat.mul_add]
  exact this
theorem count_le (l : List UInt8) : count l ≤ 8 * l.length := upto_length l _
/-- One bit more, or less, is one more, or less. -/
theorem upto_set_length {l m : List UInt8} {i : Nat} (hm : bit m i = true) (hl : bit l i = false) (h : ∀ j, j ≠ i → bit m j = bit l j) : ∀ n, i < n → (upto m n).length = (upto l n).length + 1
  | 0, h0 => by omega
  | n + 1, h0 => by
    rw [upto_succ, upto_succ]
    by_cases e : i = n
    · subst e
      have e2 : upto m i = upto l i := upto_congr fun j hj => h j (by omega)
      simp [hm, hl, e2]
    · have ih := upto_set_length hm hl h n (by omega)
      rw [h n (fun e2 => e e2.symm)]
      split <;> simp [ih]
theorem count_set_true {l : List UInt8} {i : Nat} (h : i < 8 * l.length) (hb : bit l i = false) : count (set l i true) = count l + 1 := by
  unfold count each
  rw [set_length]
  exact upto_set_length (by rw [bit_set, if_pos ⟨rfl, h⟩]) hb (fun j hj => by rw [bit_set, if_neg (by simp [hj])]) _ h
theorem count_set_false {l : List UInt8} {i : Nat} (h : i < 8 * l.length) (hb : bit l i = true) : count (set l i false) + 1 = count l := by
  unfold count each
  rw [set_length]
  exact (upto_set_length hb (by rw [bit_set, if_pos ⟨rfl, h⟩]) (fun j hj => by rw [bit_set, if_neg (by simp [hj])]) _ h).symm
/-- The same for places that may be below 0. -/
def bitI (l : List UInt8) (i : Int) : Bool := decide (0 ≤ i) && bit l i.toNat
def setI (l : List UInt8) (i : Int) (t : Bool) : List UInt8 := if 0 ≤ i then set l i.toNat t else l
theorem bitI_nat (l : List UInt8) (i : Nat) : bitI l i = bit l i := by simp [bitI]
theorem setI_nat (l : List UInt8) (i : Nat) (t : Bool) : setI l i t = set l i t := by simp [setI]
theorem setI_neg {l : List UInt8} {i : Int} (h : i < 0) (t : Bool) : setI l i t = l := if_neg (by omega)
theorem bitI_neg {l : List UInt8} {i : Int} (h : i < 0) : bitI l i = false := by simp [bitI]; omega
theorem bitI_out {l : List UInt8} {i : Int} (h : 8 * l.length ≤ i) : bitI l i = false := by
  obtain ⟨k, rfl⟩ := Int.eq_ofNat_of_zero_le (a := i) (by omega)
  rw [bitI_nat, bit_out (by omega)]
theorem setI_length (l : List UInt8) (i : Int) (t : Bool) : (setI l i t).length = l.length := by
  unfold setI; split
  · exact set_length _ _ _
  · rfl
theorem setI_out {l : List UInt8} {i : Int} (h : 8 * l.length ≤ i) (t : Bool) : setI l i t = l := by
  obtain ⟨k, rfl⟩ := Int.eq_ofNat_of_zero_le (a := i) (by omega)
  rw [setI_nat, set_out (by omega)]
theorem setI_bit {l : List UInt8} {i : Int} {t : Bool} (h : bitI l i = t) : setI l i t = l := by
  by_cases h0 : 0 ≤ i
  · obtain ⟨k, rfl⟩ := Int.eq_ofNat_of_zero_le h0
    rw [bitI_nat] at h
    rw [setI_nat, ← h, set_same]
  · exact setI_neg (by omega) t
end Go.Proofs.Ytoakjcmhmlngfaa.Bm
