/- Numbers written by package pack and by the document; the end of package pack's reader. -/
import Derived.Test.YthpmodohfjjjcaaPkR
import Derived.Test.YthpmodohfjjjcaaRdR
namespace Go.Proofs.Ythpmodohfjjjcaa
open Go.RowKit

theorem mk2 (w : World) : (Instr.makeSlice 110 (.int .i64 2) (.int .i64 2)).run Try.prog w = .ok (.slice (some ⟨w.heap.size, 0, none⟩) 2 2) (w.alloc (.cells #[.int .u8 0, .int .u8 0] 5)) := by kernel_rfl
theorem mk8 (w : World) : (Instr.makeSlice 110 (.int .i64 8) (.int .i64 8)).run Try.prog w = .ok (.slice (some ⟨w.heap.size, 0, none⟩) 8 8) (w.alloc (.cells #[.int .u8 0, .int .u8 0, .int .u8 0, .int .u8 0, .int .u8 0, .int .u8 0, .int .u8 0, .int .u8 0] 5)) := by kernel_rfl
theorem conv_new (w : World) (xs : List Int) (n : Nat) (hn : xs.length = n) : (convert 110 9 (.slice (some ⟨w.heap.size, 0, none⟩) n n)).run Try.prog (w.alloc (.cells (xs.map (Value.int .u8)).toArray 5)) = .ok (.string (str (xs.map fun x => UInt8.ofNat x.toNat))) (w.alloc (.cells (xs.map (Value.int .u8)).toArray 5)) := by
  refine (run_convert_bytes_arg (P := Try.prog) (w.alloc (.cells (xs.map (Value.int .u8)).toArray 5)) 110 5 Try.underlying110 Try.underlying5 w.heap.size 0 n n xs hn ?_ 9 Try.underlying9).trans ?_
  · intro i hi
    subst hn
    simp [World.cell?_alloc_at, List.getElem?_eq_getElem hi, List.getD]
  · rfl
theorem cv2 (w : World) (a b : Int) : (convert 110 9 (.slice (some ⟨w.heap.size, 0, none⟩) 2 2)).run Try.prog (w.alloc (.cells #[.int .u8 a, .int .u8 b] 5)) = .ok (.string (str [UInt8.ofNat a.toNat, UInt8.ofNat b.toNat])) (w.alloc (.cells #[.int .u8 a, .int .u8 b] 5)) :=
  conv_new w [a, b] 2 rfl
theorem cv8 (w : World) (a b c d e f g h : Int) : (convert 110 9 (.slice (some ⟨w.heap.size, 0, none⟩) 8 8)).run Try.prog (w.alloc (.cells #[.int .u8 a, .int .u8 b, .int .u8 c, .int .u8 d, .int .u8 e, .int .u8 f, .int .u8 g, .int .u8 h] 5)) = .ok (.string (str [UInt8.ofNat a.toNat, UInt8.ofNat b.toNat, UInt8.ofNat c.toNat, UInt8.ofNat d.toNat, UInt8.ofNat e.toNat, UInt8.ofNat f.toNat, UInt8.ofNat g.toNat, UInt8.ofNat h.toNat])) (w.alloc (.cells #[.int .u8 a, .int .u8 b, .int .u8 c, .int .u8 d, .int .u8 e, .int .u8 f, .int .u8 g, .int .u8 h] 5)) :=
  conv_new w [a, b, c, d, e, f, g, h] 8 rfl

theorem put16_any (n : Nat) (hn : n < 65536) (w : World) :
    Calls Try.prog 63 #[.int .u16 n, .int .i64 2] w fun e w' => e = .returned (.string (str (be 2 n))) ∧ Below w.heap.size w w' := by
  have hmk := mk2
  have hcv := cv2
  go_enter Try.func63, Try.ntmps63
  go_wp2
  go_rounds 3
  go_wp2
  go_ret
  refine ⟨ret_str ?_, (Below.refl _ _).alloc (Nat.le_refl _) _⟩
  simp [be, u8m]
theorem put64_any (n : Nat) (hn : n < 18446744073709551616) (w : World) :
    Calls Try.prog 64 #[.int .u64 n, .int .i64 8] w fun e w' => e = .returned (.string (str (be 8 n))) ∧ Below w.heap.size w w' := by
  have hmk := mk8
  have hcv := cv8
  go_enter Try.func64, Try.ntmps64
  go_wp2
  go_rounds 9
  go_wp2
  go_ret
  refine ⟨ret_str ?_, (Below.refl _ _).alloc (Nat.le_refl _) _⟩
  simp [be, u8m]
theorem Two_any (n : Int) (h0 : 0 ≤ n) (h1 : n < 65536) (w : World) :
    Calls Try.prog 29 #[.int .u16 n] w fun e w' => e = .returned (.string (str (be 2 n.toNat))) ∧ Below w.heap.size w w' := by
  obtain ⟨m, rfl⟩ := Int.eq_ofNat_of_zero_le h0
  rw [Int.toNat_natCast]
  go_enter Try.func29, Try.ntmps29
  go_wp2_with (go_at_call 63; refine (put16_any m (by omega) _).mono ?_; rintro e w1 ⟨rfl, hb⟩)
  go_ret
  exact ⟨rfl, hb⟩
theorem Eight_any (n : Int) (h0 : 0 ≤ n) (h1 : n < 18446744073709551616) (w : World) :
    Calls Try.prog 30 #[.int .u64 n] w fun e w' => e = .returned (.string (str (be 8 n.toNat))) ∧ Below w.heap.size w w' := by
  obtain ⟨m, rfl⟩ := Int.eq_ofNat_of_zero_le h0
  rw [Int.toNat_natCast]
  go_enter Try.func30, Try.ntmps30
  go_wp2_with (go_at_call 64; refine (put64_any m (by omega) _).mono ?_; rintro e w1 ⟨rfl, hb⟩)
  go_ret
  exact ⟨rfl, hb⟩
theorem End_any (b : Nat) (l : List UInt8) (br : Bool) (w : World) (h : Rd w b l br) :
    Calls Try.prog 36 #[.pointer (some ⟨b, 0, none⟩)] w fun e w' => e = .returned (.int .i64 (endE l br)) ∧ w = w' := by
  obtain ⟨c0, c1, f0, f1⟩ := h
  cases br
  · cases l with
    | nil =>
      go_enter Try.func36, Try.ntmps36
      go_wp2
      go_ret
      exact ⟨rfl, rfl⟩
    | cons x l =>
      go_enter Try.func36, Try.ntmps36
      go_wp2
      go_ret
      exact ⟨rfl, rfl⟩
  · go_enter Try.func36, Try.ntmps36
    go_wp2
    go_ret
    exact ⟨rfl, rfl⟩
theorem bs1 (w : World) (n : Nat) (a : Int) (hn : n = w.heap.size) : (convert 110 9 (.slice (some ⟨n, 0, none⟩) 1 1)).run Try.prog (w.alloc (.cells #[.int .u8 a] 5)) = .ok (.string (str [UInt8.ofNat a.toNat])) (w.alloc (.cells #[.int .u8 a] 5)) := by
  subst hn
  exact conv_new w [a] 1 rfl
theorem Num2_any (n : Int) (h0 : 0 ≤ n) (h1 : n < 18446744073709551616) (w : World) :
    Calls Try.prog 32 #[.int .u64 n, .int .i64 2] w fun e w' => e = .returned (.string (str (be 2 n.toNat))) ∧ Below w.heap.size w w' := by
  obtain ⟨m, rfl⟩ := Int.eq_ofNat_of_zero_le h0
  rw [Int.toNat_natCast]
  have hbs := bs1
  go_enter Try.func32, Try.ntmps32
  go_wp2
  go_rounds 3
  go_wp2
  go_ret
  refine ⟨ret_str (by simp [be, u8m]), ?_⟩
  go_grown
theorem Num8_any (n : Int) (h0 : 0 ≤ n) (h1 : n < 18446744073709551616) (w : World) :
    Calls Try.prog 32 #[.int .u64 n, .int .i64 8] w fun e w' => e = .returned (.string (str (be 8 n.toNat))) ∧ Below w.heap.size w w' := by
  obtain ⟨m, rfl⟩ := Int.eq_ofNat_of_zero_le h0
  rw [Int.toNat_natCast]
  have hbs := bs1
  go_enter Try.func32, Try.ntmps32
  go_wp2
  go_rounds 9
  go_wp2
  go_ret
  refine ⟨ret_str (by simp [be, u8m]), ?_⟩
  go_grown
end Go.Proofs.Ythpmodohfjjjcaa
