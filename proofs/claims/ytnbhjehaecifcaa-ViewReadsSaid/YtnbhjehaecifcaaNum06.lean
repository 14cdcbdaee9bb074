/- A view as bytes. -/
import Derived.Test.YtnbhjehaecifcaaLk06
namespace Go.Proofs.Ytnbhjehaecifcaa
open Go.RowKit

theorem mk2 (w : World) : (Instr.makeSlice 73 (.int .i64 2) (.int .i64 2)).run Try.prog w = .ok (.slice (some ⟨w.heap.size, 0, none⟩) 2 2) (w.alloc (.cells #[.int .u8 0, .int .u8 0] 5)) := by kernel_rfl
theorem mk8 (w : World) : (Instr.makeSlice 73 (.int .i64 8) (.int .i64 8)).run Try.prog w = .ok (.slice (some ⟨w.heap.size, 0, none⟩) 8 8) (w.alloc (.cells #[.int .u8 0, .int .u8 0, .int .u8 0, .int .u8 0, .int .u8 0, .int .u8 0, .int .u8 0, .int .u8 0] 5)) := by kernel_rfl
theorem conv_new (w : World) (xs : List Int) (n : Nat) (hn : xs.length = n) : (convert 73 9 (.slice (some ⟨w.heap.size, 0, none⟩) n n)).run Try.prog (w.alloc (.cells (xs.map (Value.int .u8)).toArray 5)) = .ok (.string (str (xs.map fun x => UInt8.ofNat x.toNat))) (w.alloc (.cells (xs.map (Value.int .u8)).toArray 5)) := by
  refine (run_convert_bytes_arg (P := Try.prog) (w.alloc (.cells (xs.map (Value.int .u8)).toArray 5)) 73 5 Try.underlying73 Try.underlying5 w.heap.size 0 n n xs hn ?_ 9 Try.underlying9).trans ?_
  · intro i hi
    subst hn
    simp [World.cell?_alloc_at, List.getElem?_eq_getElem hi, List.getD]
  · rfl
theorem cv2 (w : World) (a b : Int) : (convert 73 9 (.slice (some ⟨w.heap.size, 0, none⟩) 2 2)).run Try.prog (w.alloc (.cells #[.int .u8 a, .int .u8 b] 5)) = .ok (.string (str [UInt8.ofNat a.toNat, UInt8.ofNat b.toNat])) (w.alloc (.cells #[.int .u8 a, .int .u8 b] 5)) :=
  conv_new w [a, b] 2 rfl
theorem cv8 (w : World) (a b c d e f g h : Int) : (convert 73 9 (.slice (some ⟨w.heap.size, 0, none⟩) 8 8)).run Try.prog (w.alloc (.cells #[.int .u8 a, .int .u8 b, .int .u8 c, .int .u8 d, .int .u8 e, .int .u8 f, .int .u8 g, .int .u8 h] 5)) = .ok (.string (str [UInt8.ofNat a.toNat, UInt8.ofNat b.toNat, UInt8.ofNat c.toNat, UInt8.ofNat d.toNat, UInt8.ofNat e.toNat, UInt8.ofNat f.toNat, UInt8.ofNat g.toNat, UInt8.ofNat h.toNat])) (w.alloc (.cells #[.int .u8 a, .int .u8 b, .int .u8 c, .int .u8 d, .int .u8 e, .int .u8 f, .int .u8 g, .int .u8 h] 5)) :=
  conv_new w [a, b, c, d, e, f, g, h] 8 rfl

theorem put16_any (n : Nat) (hn : n < 65536) (w : World) :
    Calls Try.prog 64 #[.int .u16 n, .int .i64 2] w fun e w' => e = .returned (.string (str (be 2 n))) ∧ Below w.heap.size w w' := by
  have hmk := mk2
  have hcv := cv2
  go_enter Try.func64, Try.ntmps64
  go_wp2
  go_rounds 3
  go_wp2
  go_ret
  refine ⟨ret_str ?_, (Below.refl _ _).alloc (Nat.le_refl _) _⟩
  simp [be, u8m]
theorem put64_any (n : Nat) (hn : n < 18446744073709551616) (w : World) :
    Calls Try.prog 65 #[.int .u64 n, .int .i64 8] w fun e w' => e = .returned (.string (str (be 8 n))) ∧ Below w.heap.size w w' := by
  have hmk := mk8
  have hcv := cv8
  go_enter Try.func65, Try.ntmps65
  go_wp2
  go_rounds 9
  go_wp2
  go_ret
  refine ⟨ret_str ?_, (Below.refl _ _).alloc (Nat.le_refl _) _⟩
  simp [be, u8m]
theorem Two_any (n : Int) (h0 : 0 ≤ n) (h1 : n < 65536) (w : World) :
    Calls Try.prog 48 #[.int .u16 n] w fun e w' => e = .returned (.string (str (be 2 n.toNat))) ∧ Below w.heap.size w w' := by
  obtain ⟨m, rfl⟩ := Int.eq_ofNat_of_zero_le h0
  rw [Int.toNat_natCast]
  go_enter Try.func48, Try.ntmps48
  go_wp2_with (go_at_call 64; refine (put16_any m (by omega) _).mono ?_; rintro e w1 ⟨rfl, hb⟩)
  go_ret
  exact ⟨rfl, hb⟩
theorem Eight_any (n : Int) (h0 : 0 ≤ n) (h1 : n < 18446744073709551616) (w : World) :
    Calls Try.prog 49 #[.int .u64 n] w fun e w' => e = .returned (.string (str (be 8 n.toNat))) ∧ Below w.heap.size w w' := by
  obtain ⟨m, rfl⟩ := Int.eq_ofNat_of_zero_le h0
  rw [Int.toNat_natCast]
  go_enter Try.func49, Try.ntmps49
  go_wp2_with (go_at_call 65; refine (put64_any m (by omega) _).mono ?_; rintro e w1 ⟨rfl, hb⟩)
  go_ret
  exact ⟨rfl, hb⟩
theorem two_any (n : Int) (h0 : 0 ≤ n) (h1 : n < 65536) (w : World) :
    Calls Try.prog 18 #[.int .i64 n] w fun e w' => e = .returned (.string (str (be 2 n.toNat))) ∧ Below w.heap.size w w' := by
  have hw : IntKind.u16.wrap n = n := by simp [IntKind.wrap, IntKind.signed, IntKind.bits]; omega
  go_enter Try.func18, Try.ntmps18
  go_wp2_with (go_at_call 48; refine (Two_any n h0 h1 _).mono ?_; rintro e w1 ⟨rfl, hb⟩)
  go_ret
  exact ⟨rfl, hb⟩
theorem eight_any (n : Int) (h0 : 0 ≤ n) (h1 : n < 9223372036854775808) (w : World) :
    Calls Try.prog 19 #[.int .i64 n] w fun e w' => e = .returned (.string (str (be 8 n.toNat))) ∧ Below w.heap.size w w' := by
  have hw : IntKind.u64.wrap n = n := by simp [IntKind.wrap, IntKind.signed, IntKind.bits]; omega
  go_enter Try.func19, Try.ntmps19
  go_wp2_with (go_at_call 49; refine (Eight_any n h0 (by omega) _).mono ?_; rintro e w1 ⟨rfl, hb⟩)
  go_ret
  exact ⟨rfl, hb⟩
def bN (b : Bool) : Nat := if b then 1 else 0
theorem mark_any (r : Bool) (w : World) :
    Calls Try.prog 20 #[.bool r] w fun e w' => e = .returned (.string (str (be 2 (bN r)))) ∧ Below w.heap.size w w' := by
  cases r with
  | true =>
    go_enter Try.func20, Try.ntmps20
    go_wp2_with (go_at_call 18; refine (two_any 1 (by decide) (by decide) _).mono ?_; rintro e w1 ⟨rfl, hb⟩)
    go_ret
    exact ⟨rfl, hb⟩
  | false =>
    go_enter Try.func20, Try.ntmps20
    go_wp2_with (go_at_call 18; refine (two_any 0 (by decide) (by decide) _).mono ?_; rintro e w1 ⟨rfl, hb⟩)
    go_ret
    exact ⟨rfl, hb⟩
end Go.Proofs.Ytnbhjehaecifcaa
