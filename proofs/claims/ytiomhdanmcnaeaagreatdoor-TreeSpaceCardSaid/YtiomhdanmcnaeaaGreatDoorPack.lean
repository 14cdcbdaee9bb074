
/- What each function of package pack gives, at this translation: numbers and texts put, read, filled and opened. -/
import Derived.Test.YtiomhdanmcnaeaaGreatDoorRep0
import Derived.Test.YtiomhdanmcnaeaaGreatDoorZer
import Derived.Test.YtiomhdanmcnaeaaGreatDoorChecked
import Derived.Test.YtiomhdanmcnaeaaGreatDoorBase
import Derived.Test.YtiomhdanmcnaeaaGreatDoorShelf
namespace Go.Proofs.YtiomhdanmcnaeaaGreatDoor
open Go.RowKit

/-! ### numbers are put -/
theorem mk2 (w : World) : (Instr.makeSlice 33 (.int .i64 2) (.int .i64 2)).run Tryz.prog w = .ok (.slice (some ⟨w.heap.size, 0, none⟩) 2 2) (w.alloc (.cells #[.int .u8 0, .int .u8 0] 5)) := by kernel_rfl
theorem mk4 (w : World) : (Instr.makeSlice 33 (.int .i64 4) (.int .i64 4)).run Tryz.prog w = .ok (.slice (some ⟨w.heap.size, 0, none⟩) 4 4) (w.alloc (.cells #[.int .u8 0, .int .u8 0, .int .u8 0, .int .u8 0] 5)) := by kernel_rfl
theorem mk8 (w : World) : (Instr.makeSlice 33 (.int .i64 8) (.int .i64 8)).run Tryz.prog w = .ok (.slice (some ⟨w.heap.size, 0, none⟩) 8 8) (w.alloc (.cells #[.int .u8 0, .int .u8 0, .int .u8 0, .int .u8 0, .int .u8 0, .int .u8 0, .int .u8 0, .int .u8 0] 5)) := by kernel_rfl
theorem cv2 (w : World) (a b : Int) : (convert 33 9 (.slice (some ⟨w.heap.size, 0, none⟩) 2 2)).run Tryz.prog (w.alloc (.cells #[.int .u8 a, .int .u8 b] 5)) = .ok (.string (str [UInt8.ofNat a.toNat, UInt8.ofNat b.toNat])) (w.alloc (.cells #[.int .u8 a, .int .u8 b] 5)) :=
  conv_new w [a, b] 2 rfl
theorem cv4 (w : World) (a b c d : Int) : (convert 33 9 (.slice (some ⟨w.heap.size, 0, none⟩) 4 4)).run Tryz.prog (w.alloc (.cells #[.int .u8 a, .int .u8 b, .int .u8 c, .int .u8 d] 5)) = .ok (.string (str [UInt8.ofNat a.toNat, UInt8.ofNat b.toNat, UInt8.ofNat c.toNat, UInt8.ofNat d.toNat])) (w.alloc (.cells #[.int .u8 a, .int .u8 b, .int .u8 c, .int .u8 d] 5)) :=
  conv_new w [a, b, c, d] 4 rfl
theorem cv8 (w : World) (a b c d e f g h : Int) : (convert 33 9 (.slice (some ⟨w.heap.size, 0, none⟩) 8 8)).run Tryz.prog (w.alloc (.cells #[.int .u8 a, .int .u8 b, .int .u8 c, .int .u8 d, .int .u8 e, .int .u8 f, .int .u8 g, .int .u8 h] 5)) = .ok (.string (str [UInt8.ofNat a.toNat, UInt8.ofNat b.toNat, UInt8.ofNat c.toNat, UInt8.ofNat d.toNat, UInt8.ofNat e.toNat, UInt8.ofNat f.toNat, UInt8.ofNat g.toNat, UInt8.ofNat h.toNat])) (w.alloc (.cells #[.int .u8 a, .int .u8 b, .int .u8 c, .int .u8 d, .int .u8 e, .int .u8 f, .int .u8 g, .int .u8 h] 5)) :=
  conv_new w [a, b, c, d, e, f, g, h] 8 rfl

theorem cvn (w : World) (n : Nat) : (convert 33 9 (.slice (some ⟨w.heap.size, 0, none⟩) n n)).run Tryz.prog (w.alloc (zeroObj n)) = .ok (.string (str (List.replicate n 0))) (w.alloc (zeroObj n)) := by
  have h := conv_new w (List.replicate n (0 : Int)) n (by simp)
  have e : (List.replicate n (0 : Int)).map (fun x => UInt8.ofNat x.toNat) = List.replicate n 0 := by simp
  rw [e] at h
  exact h
/-! ### texts, sectors -/
/-! ### readers -/
end Go.Proofs.YtiomhdanmcnaeaaGreatDoor
