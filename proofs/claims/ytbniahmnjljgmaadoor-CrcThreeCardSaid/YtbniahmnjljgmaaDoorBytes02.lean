/- Bytes that a call keeps in a block of its own: made, turned one by one, and read as a text. -/
import Derived.Test.YtbniahmnjljgmaaDoorRef02
namespace Go.Proofs.YtbniahmnjljgmaaDoor
open Go.RowKit

/-- A block holds these bytes, free to be turned. -/
structure Bytes (w : World) (b : Nat) (l : List UInt8) : Prop where
  cell : ∀ i, i < l.length → w.cell? ⟨b, i, none⟩ = some (.int .u8 ((l.getD i 0).toNat : Int))
  free : ∀ i, i < l.length → w.frozen? ⟨b, i, none⟩ = false
theorem Bytes.set {w : World} {b : Nat} {l : List UInt8} (h : Bytes w b l) (k : Nat) (x : UInt8) : Bytes (w.setCell ⟨b, k, none⟩ (.int .u8 (x.toNat : Int))) b (l.set k x) := by
  refine ⟨fun i hi => ?_, fun i hi => ?_⟩
  · rw [List.length_set] at hi
    by_cases e : k = i
    · subst e
      rw [set_same (h.cell k hi)]
      simp [List.getD, hi]
    · rw [set_other (fun h => e (by injection h)) (h.cell i hi)]
      simp [List.getD, e]
  · rw [List.length_set] at hi
    exact set_frozen (h.free i hi)
theorem Bytes.back {w : World} {b : Nat} {l : List UInt8} (h : Bytes w b l) (cap : Nat) : (convert 34 9 (.slice (some ⟨b, 0, none⟩) l.length cap)).run Tryd.prog w = .ok (.string (str l)) w := by
  refine run_convert_bytes_back (P := Tryd.prog) w 34 9 5 ⟨b, 0, none⟩ cap l Tryd.underlying34 Tryd.underlying5 Tryd.underlying9 (fun j hj => ?_)
  rw [Go.WideShapes.add_plain]
  have := h.cell j hj
  rw [Nat.zero_add, this]
  simp [List.getD, hj]
theorem Bytes.below {w w' : World} {b : Nat} {l : List UInt8} (h : Bytes w b l) (k : Below w.heap.size w w') : Bytes w' b l :=
  ⟨fun i hi => (k.cell (p := ⟨b, i, none⟩) (lt_of_cell (h.cell i hi))).trans (h.cell i hi), fun i hi => (k.frozen (p := ⟨b, i, none⟩) (lt_of_cell (h.cell i hi))).trans (h.free i hi)⟩
/-- Of a text: its bytes in a new block. -/
theorem bytes_of (w : World) (l : List UInt8) : ∃ w' cap, (convert 9 34 (.string (str l))).run Tryd.prog w = .ok (.slice (some ⟨w.heap.size, 0, none⟩) l.length cap) w' ∧ Bytes w' w.heap.size l ∧ Below w.heap.size w w' ∧ w'.heap.size = w.heap.size + 1 := by
  have h := run_bytes_of_string (P := Tryd.prog) w 9 34 5 (str l) Tryd.underlying9 Tryd.underlying34 Tryd.underlying5
  rw [str_size] at h
  refine ⟨_, _, h, ⟨fun i hi => ?_, fun i hi => ?_⟩, ((Below.refl _ _).drew).alloc (Nat.le_refl _) _, ?_⟩
  · show (w.drew.alloc _).cell? ⟨w.drew.heap.size, i, none⟩ = _
    rw [World.cell?_alloc_mark]
    rw [bytesRow, Array.getElem?_append_left (by simpa [str_size] using hi)]
    simp [List.getD, hi, str_data]
  · show (w.drew.alloc _).frozen? ⟨w.drew.heap.size, i, none⟩ = _
    rw [World.frozen?_alloc_mark]
    have : l.length ≤ (bytesRow (str l) (grownCap w l.length 0 5)).size := by simp [bytesRow, str_size]
    simp
    omega
  · simp
/-- Bytes 0, as many as asked, in a new block. -/
def zeroObj (n : Nat) : Obj := .cells ((List.replicate n (0 : Int)).map (Value.int .u8)).toArray 5
theorem mkn (w : World) (x : Int) (h0 : 0 ≤ x) (h1 : x ≤ 281474976710656) : (Instr.makeSlice 34 (.int .i64 x) (.int .i64 x)).run Tryd.prog w = .ok (.slice (some ⟨w.heap.size, 0, none⟩) x.toNat x.toNat) (w.alloc (zeroObj x.toNat)) := by
  have hinfo : (Tryd.prog.info? 5).map (fun i => (i.zero, i.size, i.bytes)) = some (some (.int .u8 0), 1, 1) := by kernel_rfl
  obtain ⟨i0, hi, hz0, hz1, hz2⟩ := info_parts hinfo
  have h := run_make (P := Tryd.prog) w 34 5 i0 (.int .u8 0) Tryd.underlying34 hi hz0 .i64 .i64 x x h0 (Int.le_refl _) (by rw [hz2]; omega) (by omega)
  have e : madeCells (Value.int .u8 0).cells (x.toNat * i0.size) = ((List.replicate x.toNat (0 : Int)).map (Value.int .u8)).toArray := by
    rw [hz1]
    apply Array.ext
    · simp [madeCells]
    · intro j h1 h2; simp [madeCells, Value.cells, Nat.mod_one]
  rw [e] at h
  exact h
theorem bytes_zero (w : World) (n : Nat) : Bytes (w.alloc (zeroObj n)) w.heap.size (List.replicate n 0) := by
  refine ⟨fun i hi => ?_, fun i hi => ?_⟩
  · rw [List.length_replicate] at hi
    rw [zeroObj, World.cell?_alloc_at _ _ _ _ rfl]
    simp [List.getD, hi]
  · exact World.frozen?_alloc_at _ _ _ _ rfl
/-- Bytes put together. -/
theorem u8_xor (a b : UInt8) : bits .xor .u8 ((a.toNat : Nat) : Int) ((b.toNat : Nat) : Int) = (((a ^^^ b).toNat : Nat) : Int) := by
  have ha := a.toNat_lt
  have hb := b.toNat_lt
  show IntKind.u8.wrap ((BitVec.ofInt 8 ((a.toNat : Nat) : Int) ^^^ BitVec.ofInt 8 ((b.toNat : Nat) : Int)).toNat : Int) = _
  have e : ∀ x : UInt8, BitVec.ofInt 8 ((x.toNat : Nat) : Int) = x.toBitVec := by
    intro x
    apply BitVec.eq_of_toNat_eq
    have := x.toNat_lt
    simp
  rw [e, e]
  have h1 : (a.toBitVec ^^^ b.toBitVec).toNat = (a ^^^ b).toNat := rfl
  rw [h1]
  have := (a ^^^ b).toNat_lt
  rw [IntKind.wrap_u8]
  omega
end Go.Proofs.YtbniahmnjljgmaaDoor
