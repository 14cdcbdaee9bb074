
/- What each function of package bitmap gives, at this translation. -/
import Derived.Test.YtnddfekgbabmdaaChecked
import Derived.Test.YtnddfekgbabmdaaClose
import Derived.Test.YtnddfekgbabmdaaBitMath
import Derived.Deep.LoopGhost
namespace Go.Proofs.Ytnddfekgbabmdaa
open Go.RowKit

theorem Len_any (l : List UInt8) (hl : l.length ≤ 100000) (w : World) :
    Calls Try.prog 60 #[.string (str l)] w fun e w' => e = .returned (.int .i64 (8 * (l.length : Int))) ∧ w = w' := by
  go_enter Try.func60, Try.ntmps60
  go_wp2
  go_ret
  exact ⟨rfl, rfl⟩
/-- Bytes in the walk's own spelling. -/
theorem and_one (m : Nat) (hm : m < 256) : bits .and .u8 ((m : Nat) : Int) 1 = ((m % 2 : Nat) : Int) := by
  show IntKind.u8.wrap ((BitVec.ofInt 8 ((m : Nat) : Int) &&& BitVec.ofInt 8 1).toNat : Int) = _
  have e1 : (BitVec.ofInt 8 1) = 1#8 := by decide
  have e2 : (BitVec.ofInt 8 ((m : Nat) : Int)) = BitVec.ofNat 8 m := by apply BitVec.eq_of_toNat_eq; simp
  rw [e1, e2, BitVec.toNat_and, BitVec.toNat_ofNat, BitVec.toNat_ofNat, Nat.mod_eq_of_lt (a := m) (by omega), show 1 % 2 ^ 8 = 1 from rfl, Nat.and_one_is_mod, IntKind.wrap_u8]
  omega
theorem shr_nat (n k : Nat) : ((n : Nat) : Int) / (2 : Int) ^ k = ((n / 2 ^ k : Nat) : Int) := by simp
theorem bit_val (n k : Nat) (hn : n < 256) : (bits .and .u8 (((n : Nat) : Int) / (2 : Int) ^ k) (1 : Int) == (1 : Int)) = n.testBit k := by
  have h : n / 2 ^ k ≤ n := Nat.div_le_self _ _
  rw [shr_nat, and_one _ (by omega), Nat.testBit_eq_decide_div_mod_eq, Bool.eq_iff_iff]
  simp only [beq_iff_eq, decide_eq_true_eq]
  omega
theorem u8_xor (a b : UInt8) : bits .xor .u8 ((a.toNat : Nat) : Int) ((b.toNat : Nat) : Int) = (((a ^^^ b).toNat : Nat) : Int) := by
  have ha := a.toNat_lt
  have hb := b.toNat_lt
  show IntKind.u8.wrap ((BitVec.ofInt 8 ((a.toNat : Nat) : Int) ^^^ BitVec.ofInt 8 ((b.toNat : Nat) : Int)).toNat : Int) = _
  have e : ∀ x : UInt8, BitVec.ofInt 8 ((x.toNat : Nat) : Int) = x.toBitVec := by
    intro x
    apply BitVec.eq_of_toNat_eq
    have := x.toNat_lt
    simp
  rw [e, e]
  have h1 : (a.toBitVec ^^^ b.toBitVec).toNat = (a ^^^ b).toNat := rfl
  rw [h1]
  have := (a ^^^ b).toNat_lt
  rw [IntKind.wrap_u8]
  omega
theorem there_yes (l : List UInt8) (hl : l.length ≤ 100000) (i : Nat) (h : i < 8 * l.length) (w : World) :
    Calls Try.prog 50 #[.string (str l), .int .i64 i] w fun e w' => e = .returned (.bool true) ∧ w = w' := by
  go_enter Try.func50, Try.ntmps50
  go_wp2_with fail
  refine (Len_any _ hl _).mono ?_
  rintro e w1 ⟨rfl, rfl⟩
  go_wp2
  go_ret
  exact ⟨ret_bool (by simp; omega), rfl⟩
theorem there_no (l : List UInt8) (hl : l.length ≤ 100000) (i : Int) (h : i < 0 ∨ 8 * l.length ≤ i) (w : World) :
    Calls Try.prog 50 #[.string (str l), .int .i64 i] w fun e w' => e = .returned (.bool false) ∧ w = w' := by
  by_cases h0 : 0 ≤ i
  · have h1 : 8 * (l.length : Int) ≤ i := by omega
    clear h
    go_enter Try.func50, Try.ntmps50
    go_wp2_with fail
    refine (Len_any _ hl _).mono ?_
    rintro e w1 ⟨rfl, rfl⟩
    go_wp2
    go_ret
    exact ⟨ret_bool (by simp; omega), rfl⟩
  · clear h
    go_enter Try.func50, Try.ntmps50
    go_wp2
    go_ret
    exact ⟨rfl, rfl⟩
theorem Has_in (l : List UInt8) (hl : l.length ≤ 100000) (i : Nat) (h : i < 8 * l.length) (w : World) :
    Calls Try.prog 51 #[.string (str l), .int .i64 i] w fun e w' => e = .returned (.bool (Bm.bit l i)) ∧ w = w' := by
  have h8 : i / 8 < l.length := by omega
  go_enter Try.func51, Try.ntmps51
  go_wp2_with fail
  refine (there_yes _ hl _ h _).mono ?_
  rintro e w1 ⟨rfl, rfl⟩
  go_wp2
  go_ret
  exact ⟨ret_bool (by rw [bit_val _ _ (UInt8.toNat_lt _), Bm.bit_in h]), rfl⟩
theorem Has_out (l : List UInt8) (hl : l.length ≤ 100000) (i : Int) (h : i < 0 ∨ 8 * l.length ≤ i) (w : World) :
    Calls Try.prog 51 #[.string (str l), .int .i64 i] w fun e w' => e = .returned (.bool false) ∧ w = w' := by
  go_enter Try.func51, Try.ntmps51
  go_wp2_with fail
  refine (there_no _ hl _ h _).mono ?_
  rintro e w1 ⟨rfl, rfl⟩
  go_wp2
  go_ret
  exact ⟨rfl, rfl⟩
theorem Has_any (l : List UInt8) (hl : l.length ≤ 100000) (i : Int) (w : World) :
    Calls Try.prog 51 #[.string (str l), .int .i64 i] w fun e w' => e = .returned (.bool (Bm.bitI l i)) ∧ w = w' := by
  by_cases h0 : 0 ≤ i
  · obtain ⟨k, rfl⟩ := Int.eq_ofNat_of_zero_le h0
    by_cases h1 : k < 8 * l.length
    · rw [Bm.bitI_nat]
      exact Has_in l hl k h1 w
    · rw [Bm.bitI_out (by omega)]
      exact Has_out l hl k (by omega) w
  · rw [Bm.bitI_neg (by omega)]
    exact Has_out l hl i (by omega) w
/-- What a search turns bytes by. -/
def turn (t : Bool) : UInt8 := if t then 0 else 255
theorem turn_bit (b : UInt8) (t : Bool) (k : Nat) (hk : k < 8) : (b ^^^ turn t).toNat.testBit k = (b.toNat.testBit k == t) := by
  rw [UInt8.toNat_xor, Nat.testBit_xor]
  cases t
  · have e : (turn false).toNat.testBit k = true := by
      have : ∀ k, k < 8 → (turn false).toNat.testBit k = true := by decide
      exact this k hk
    rw [e]; cases b.toNat.testBit k <;> rfl
  · have e : (turn true).toNat.testBit k = false := by
      have : ∀ k, k < 8 → (turn true).toNat.testBit k = false := by decide
      exact this k hk
    rw [e]; cases b.toNat.testBit k <;> rfl
theorem div_zero_bits {n k j : Nat} (h : n / 2 ^ k = 0) (hj : k ≤ j) : n.testBit j = false := by
  have h2 : (n / 2 ^ k).testBit (j - k) = n.testBit (j - k + k) := Nat.testBit_div_two_pow n (j - k)
  rw [h] at h2
  rw [show j = j - k + k by omega, ← h2]
  simp
theorem ne_of_beq {a b : Bool} (h : (a == b) = false) : a ≠ b := by rintro rfl; simp at h
end Go.Proofs.Ytnddfekgbabmdaa
