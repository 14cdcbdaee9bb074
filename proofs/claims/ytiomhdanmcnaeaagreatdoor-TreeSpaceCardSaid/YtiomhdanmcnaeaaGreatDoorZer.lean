/- Bytes 0 in a new block; bytes of a new block as a text. -/
import Derived.Test.YtiomhdanmcnaeaaGreatDoorChecked
import Derived.Test.YtiomhdanmcnaeaaGreatDoorClose
namespace Go.Proofs.YtiomhdanmcnaeaaGreatDoor
open Go.RowKit

/-- Bytes 0, as many as asked, in a new block. -/
def zeroObj (n : Nat) : Obj := .cells ((List.replicate n (0 : Int)).map (Value.int .u8)).toArray 5
theorem mkn (w : World) (x : Int) (h0 : 0 ≤ x) (h1 : x ≤ 281474976710656) : (Instr.makeSlice 33 (.int .i64 x) (.int .i64 x)).run Tryz.prog w = .ok (.slice (some ⟨w.heap.size, 0, none⟩) x.toNat x.toNat) (w.alloc (zeroObj x.toNat)) := by
  have hinfo : (Tryz.prog.info? 5).map (fun i => (i.zero, i.size, i.bytes)) = some (some (.int .u8 0), 1, 1) := by kernel_rfl
  obtain ⟨i0, hi, hz0, hz1, hz2⟩ := info_parts hinfo
  have h := run_make (P := Tryz.prog) w 33 5 i0 (.int .u8 0) Tryz.underlying33 hi hz0 .i64 .i64 x x h0 (Int.le_refl _) (by rw [hz2]; omega) (by omega)
  have e : madeCells (Value.int .u8 0).cells (x.toNat * i0.size) = ((List.replicate x.toNat (0 : Int)).map (Value.int .u8)).toArray := by
    rw [hz1]
    apply Array.ext
    · simp [madeCells]
    · intro j h1 h2; simp [madeCells, Value.cells, Nat.mod_one]
  rw [e] at h
  exact h
/-- Bytes of a new block as a string. -/
theorem conv_new (w : World) (xs : List Int) (n : Nat) (hn : xs.length = n) : (convert 33 9 (.slice (some ⟨w.heap.size, 0, none⟩) n n)).run Tryz.prog (w.alloc (.cells (xs.map (Value.int .u8)).toArray 5)) = .ok (.string (str (xs.map fun x => UInt8.ofNat x.toNat))) (w.alloc (.cells (xs.map (Value.int .u8)).toArray 5)) := by
  refine (run_convert_bytes_arg (P := Tryz.prog) (w.alloc (.cells (xs.map (Value.int .u8)).toArray 5)) 33 5 Tryz.underlying33 Tryz.underlying5 w.heap.size 0 n n xs hn ?_ 9 Tryz.underlying9).trans ?_
  · intro i hi
    subst hn
    simp [World.cell?_alloc_at, List.getElem?_eq_getElem hi, List.getD]
  · rfl
theorem bs1 (w : World) (n : Nat) (a : Int) (hn : n = w.heap.size) : (convert 33 9 (.slice (some ⟨n, 0, none⟩) 1 1)).run Tryz.prog (w.alloc (.cells #[.int .u8 a] 5)) = .ok (.string (str [UInt8.ofNat a.toNat])) (w.alloc (.cells #[.int .u8 a] 5)) := by
  subst hn
  exact conv_new w [a] 1 rfl
end Go.Proofs.YtiomhdanmcnaeaaGreatDoor
