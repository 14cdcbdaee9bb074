
/- A slice of changes that came in: what each of them says; the rest by a number. -/
import Derived.Test.YthpmodohfjjjcaaAw9
namespace Go.Proofs.Ythpmodohfjjjcaa
open Go.RowKit Go.ChangeShapes Go.WideShapes Go.ChangeAt Go.Deep

/-- A call. -/
structure OpV where
  kind : Int
  node : Int
  mode : Int
/-- A change lies so in three cells. -/
structure OpAt (w : World) (b o : Nat) (v : OpV) : Prop where
  kind : w.cell? ⟨b, o, none⟩ = some (.int .i64 v.kind)
  node : w.cell? ⟨b, o + 1, none⟩ = some (.int .i64 v.node)
  mode : w.cell? ⟨b, o + 2, none⟩ = some (.int .i64 v.mode)
  wkind : (Lit.int .i64 v.kind).wf = true
  wnode : (Lit.int .i64 v.node).wf = true
/-- A slice of calls that came in. -/
structure IsOps (w : World) (a : Option Addr) (len : Nat) (vs : Nat → OpV) : Prop where
  max : len ≤ maxLen
  cells : 0 < len → ∃ b off, a = some ⟨b, off, none⟩ ∧ ∀ i, i < len → OpAt w b (off + i * 3) (vs i)
theorem OpAt.below {w w' : World} {b o : Nat} {v : OpV} (h : OpAt w b o v) {n : Nat} (hb : b < n) (m : Below n w w') : OpAt w' b o v := by
  exact ⟨(m.cell (p := ⟨b, o, none⟩) hb).trans h.kind, (m.cell (p := ⟨b, o + 1, none⟩) hb).trans h.node, (m.cell (p := ⟨b, o + 2, none⟩) hb).trans h.mode, h.wkind, h.wnode⟩
/-- A slice of calls that came in stays what it is. -/
theorem IsOps.at {W w : World} {a : Option Addr} {len : Nat} {vs : Nat → OpV} (h : IsOps W a len vs) (m : Below W.heap.size W w) {i : Nat} (hi : i < len) : ∃ b off, a = some ⟨b, off, none⟩ ∧ OpAt w b (off + i * 3) (vs i) := by
  obtain ⟨b, off, rfl, hc⟩ := h.cells (by omega)
  exact ⟨b, off, rfl, (hc i hi).below (lt_of_cell (hc i hi).kind) m⟩
theorem and_small (x : Int) (m : Nat) (hm : m = 3 ∨ m = 7) : ∃ k : Nat, Hid (bits .and .i64 x (m : Int) = (k : Int)) ∧ k ≤ m := by
  have h2 : (BitVec.ofInt 64 x &&& BitVec.ofInt 64 (m : Int)).toNat ≤ m := by
    rw [BitVec.toNat_and]
    have e : (BitVec.ofInt 64 (m : Int)).toNat = m := by rcases hm with rfl | rfl <;> decide
    rw [e]
    exact Nat.and_le_right
  refine ⟨(BitVec.ofInt 64 x &&& BitVec.ofInt 64 (m : Int)).toNat, Lib.hid ?_, h2⟩
  show IntKind.i64.wrap ((BitVec.ofInt 64 x &&& BitVec.ofInt 64 (m : Int)).toNat : Int) = _
  rw [IntWalk.i64_in _ (by omega)]
end Go.Proofs.Ythpmodohfjjjcaa
