
/- What each function of the document's answer for layer 1 gives, at this translation. -/
import Derived.Test.YtnoidhfhnaemgaaDoorPack
namespace Go.Proofs.YtnoidhfhnaemgaaDoor
open Go.RowKit

theorem Num2_any (n : Int) (h0 : 0 ≤ n) (h1 : n < 18446744073709551616) (w : World) :
    Calls Tryd.prog 40 #[.int .u64 n, .int .i64 2] w fun e w' => e = .returned (.string (str (be 2 n.toNat))) ∧ Below w.heap.size w w' := by
  obtain ⟨m, rfl⟩ := Int.eq_ofNat_of_zero_le h0
  rw [Int.toNat_natCast]
  have hbs := bs1
  go_enter Tryd.func40, Tryd.ntmps40
  go_wp2
  go_rounds 3
  go_wp2
  go_ret
  refine ⟨ret_str (by simp [be, u8m]), ?_⟩
  go_grown
theorem Num4_any (n : Int) (h0 : 0 ≤ n) (h1 : n < 18446744073709551616) (w : World) :
    Calls Tryd.prog 40 #[.int .u64 n, .int .i64 4] w fun e w' => e = .returned (.string (str (be 4 n.toNat))) ∧ Below w.heap.size w w' := by
  obtain ⟨m, rfl⟩ := Int.eq_ofNat_of_zero_le h0
  rw [Int.toNat_natCast]
  have hbs := bs1
  go_enter Tryd.func40, Tryd.ntmps40
  go_wp2
  go_rounds 5
  go_wp2
  go_ret
  refine ⟨ret_str (by simp [be, u8m]), ?_⟩
  go_grown
theorem Num8_any (n : Int) (h0 : 0 ≤ n) (h1 : n < 18446744073709551616) (w : World) :
    Calls Tryd.prog 40 #[.int .u64 n, .int .i64 8] w fun e w' => e = .returned (.string (str (be 8 n.toNat))) ∧ Below w.heap.size w w' := by
  obtain ⟨m, rfl⟩ := Int.eq_ofNat_of_zero_le h0
  rw [Int.toNat_natCast]
  have hbs := bs1
  go_enter Tryd.func40, Tryd.ntmps40
  go_wp2
  go_rounds 9
  go_wp2
  go_ret
  refine ⟨ret_str (by simp [be, u8m]), ?_⟩
  go_grown
theorem XText_any (l : List UInt8) (hl : l.length ≤ maxLen) (w : World) :
    Calls Tryd.prog 39 #[.string (str l)] w fun e w' => e = .returned (.tuple #[.string (str (textS l)), .int .i64 (textE l)]) ∧ Below w.heap.size w w' := by
  unfold maxLen at hl
  by_cases h : l.length ≤ 65535
  · have e1 : textS l = be 2 l.length ++ l := if_pos h
    have e2 : textE l = 0 := if_pos h
    rw [e1, e2]
    clear e1 e2
    have hbe := be_length 2 l.length
    go_enter Tryd.func39, Tryd.ntmps39
    go_wp2_with (go_at_call 40; refine (Num2_any _ (by omega) (by omega) _).mono ?_; rintro e w1 ⟨rfl, hb⟩; rw [Int.toNat_natCast])
    go_ret2
    exact ⟨rfl, hb⟩
  · have e1 : textS l = [] := if_neg h
    have e2 : textE l = 11 := if_neg h
    rw [e1, e2]
    clear e1 e2
    go_enter Tryd.func39, Tryd.ntmps39
    go_wp2
    go_ret2
    exact ⟨rfl, Below.refl _ _⟩
end Go.Proofs.YtnoidhfhnaemgaaDoor
