
/- Bytes that a call keeps in a block of its own: made, turned one by one, and read as a text. -/
import Derived.Test.YtiomhdanmcnaeaaGreatDoorZer
import Derived.Test.YtiomhdanmcnaeaaGreatDoorChecked
import Derived.Test.YtiomhdanmcnaeaaGreatDoorClose
namespace Go.Proofs.YtiomhdanmcnaeaaGreatDoor
open Go.RowKit

/-- A block holds these bytes, free to be turned. -/
structure Bytes (w : World) (b : Nat) (l : List UInt8) : Prop where
  cell : ∀ i, i < l.length → w.cell? ⟨b, i, none⟩ = some (.int .u8 ((l.getD i 0).toNat : Int))
  free : ∀ i, i < l.length → w.frozen? ⟨b, i, none⟩ = false
theorem Bytes.set {w : World} {b : Nat} {l : List UInt8} (h : Bytes w b l) (k : Nat) (x : UInt8) : Bytes (w.setCell ⟨b, k, none⟩ (.int .u8 (x.toNat : Int))) b (l.set k x) := by
  refine ⟨fun i hi => ?_, fun i hi => ?_⟩
  · rw [List.length_set] at hi
    by_cases e : k = i
    · subst e
      rw [set_same (h.cell k hi)]
      simp [List.getD, hi]
    · rw [set_other (fun h => e (by injection h)) (h.cell i hi)]
      simp [List.getD, e]
  · rw [List.length_set] at hi
    exact set_frozen (h.free i hi)
theorem Bytes.back {w : World} {b : Nat} {l : List UInt8} (h : Bytes w b l) (cap : Nat) : (convert 33 9 (.slice (some ⟨b, 0, none⟩) l.length cap)).run Tryz.prog w = .ok (.string (str l)) w := by
  refine run_convert_bytes_back (P := Tryz.prog) w 33 9 5 ⟨b, 0, none⟩ cap l Tryz.underlying33 Tryz.underlying5 Tryz.underlying9 (fun j hj => ?_)
  rw [Go.WideShapes.add_plain]
  have := h.cell j hj
  rw [Nat.zero_add, this]
  simp [List.getD, hj]
theorem Bytes.below {w w' : World} {b : Nat} {l : List UInt8} (h : Bytes w b l) (k : Below w.heap.size w w') : Bytes w' b l :=
  ⟨fun i hi => (k.cell (p := ⟨b, i, none⟩) (lt_of_cell (h.cell i hi))).trans (h.cell i hi), fun i hi => (k.frozen (p := ⟨b, i, none⟩) (lt_of_cell (h.cell i hi))).trans (h.free i hi)⟩
/-- Of a text: its bytes in a new block. -/
theorem bytes_of (w : World) (l : List UInt8) : ∃ w' cap, (convert 9 33 (.string (str l))).run Tryz.prog w = .ok (.slice (some ⟨w.heap.size, 0, none⟩) l.length cap) w' ∧ Bytes w' w.heap.size l ∧ Below w.heap.size w w' ∧ w'.heap.size = w.heap.size + 1 := by
  have h := run_bytes_of_string (P := Tryz.prog) w 9 33 5 (str l) Tryz.underlying9 Tryz.underlying33 Tryz.underlying5
  rw [str_size] at h
  refine ⟨_, _, h, ⟨fun i hi => ?_, fun i hi => ?_⟩, ((Below.refl _ _).drew).alloc (Nat.le_refl _) _, ?_⟩
  · show (w.drew.alloc _).cell? ⟨w.drew.heap.size, i, none⟩ = _
    rw [World.cell?_alloc_mark]
    rw [bytesRow, Array.getElem?_append_left (by simpa [str_size] using hi)]
    simp [List.getD, hi, str_data]
  · show (w.drew.alloc _).frozen? ⟨w.drew.heap.size, i, none⟩ = _
    rw [World.frozen?_alloc_mark]
    have : l.length ≤ (bytesRow (str l) (grownCap w l.length 0 5)).size := by simp [bytesRow, str_size]
    simp
    omega
  · simp
theorem bytes_zero (w : World) (n : Nat) : Bytes (w.alloc (zeroObj n)) w.heap.size (List.replicate n 0) := by
  refine ⟨fun i hi => ?_, fun i hi => ?_⟩
  · rw [List.length_replicate] at hi
    rw [zeroObj, World.cell?_alloc_at _ _ _ _ rfl]
    simp [List.getD, hi]
  · exact World.frozen?_alloc_at _ _ _ _ rfl
end Go.Proofs.YtiomhdanmcnaeaaGreatDoor
