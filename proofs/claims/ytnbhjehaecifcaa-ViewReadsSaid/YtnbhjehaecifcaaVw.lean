/- Views and lists of members as they lie in memory. -/
import Derived.Test.YtnbhjehaecifcaaChecked
import Derived.Test.YtnbhjehaecifcaaClose
import Derived.Test.YtnbhjehaecifcaaMix
import Derived.Outline
namespace Go.Proofs.Ytnbhjehaecifcaa
open Go.RowKit

theorem beq_no {a b : Int} (h : a ≠ b) : (a == b) = false := by simpa using h
theorem beq_yes {a b : Int} (h : a = b) : (a == b) = true := by simpa using h
theorem bne_no {a b : Int} (h : a = b) : (a != b) = false := by simpa using h
theorem bne_yes {a b : Int} (h : a ≠ b) : (a != b) = true := by simpa using h
/-- A member: its node, its incarnation, whether it is ready. -/
abbrev Mb := Int × Int × Bool
def mbV (m : Mb) : Value := .agg #[.int .i64 m.1, .int .i64 m.2.1, .bool m.2.2]
@[go_sem] theorem mbV_def (m : Mb) : mbV m = .agg #[.int .i64 m.1, .int .i64 m.2.1, .bool m.2.2] := rfl
/-- A slice of members, as far as it may be read. -/
structure IsL (w : World) (A : Option Addr) (n c : Nat) (l : List Mb) : Prop where
  length : l.length = n
  le : n ≤ c
  max : c ≤ maxLen
  cells : 0 < n → ∃ g off, A = some ⟨g, off, none⟩ ∧ g < w.heap.size ∧ ∀ i m, l[i]? = some m → w.cell? ⟨g, off + i * 3, none⟩ = some (.int .i64 m.1) ∧ w.cell? ⟨g, off + i * 3 + 1, none⟩ = some (.int .i64 m.2.1) ∧ w.cell? ⟨g, off + i * 3 + 2, none⟩ = some (.bool m.2.2)
  nil : A = none → c = 0
theorem IsL.below {w w' : World} {A : Option Addr} {n c : Nat} {l : List Mb} (h : IsL w A n c l) (b : Below w.heap.size w w') : IsL w' A n c l :=
  ⟨h.length, h.le, h.max, fun h0 => by
    obtain ⟨g, off, e, hg, hc⟩ := h.cells h0
    refine ⟨g, off, e, Nat.lt_of_lt_of_le hg b.size, fun i m hm => ?_⟩
    obtain ⟨c0, c1, c2⟩ := hc i m hm
    exact ⟨(b.cell (p := ⟨g, off + i * 3, none⟩) hg).trans c0, (b.cell (p := ⟨g, off + i * 3 + 1, none⟩) hg).trans c1, (b.cell (p := ⟨g, off + i * 3 + 2, none⟩) hg).trans c2⟩, h.nil⟩
theorem IsL.small {w : World} {A : Option Addr} {n c : Nat} {l : List Mb} (h : IsL w A n c l) : n ≤ 9223372036854775807 := by
  have := h.le; have := h.max; unfold maxLen at this; omega
/-- A slice of numbers. -/
structure IsI (w : World) (A : Option Addr) (n c : Nat) (l : List Int) : Prop where
  length : l.length = n
  le : n ≤ c
  max : c ≤ maxLen
  cells : 0 < n → ∃ g off, A = some ⟨g, off, none⟩ ∧ g < w.heap.size ∧ ∀ i z, l[i]? = some z → w.cell? ⟨g, off + i, none⟩ = some (.int .i64 z)
  nil : A = none → c = 0
theorem IsI.below {w w' : World} {A : Option Addr} {n c : Nat} {l : List Int} (h : IsI w A n c l) (b : Below w.heap.size w w') : IsI w' A n c l :=
  ⟨h.length, h.le, h.max, fun h0 => by
    obtain ⟨g, off, e, hg, hc⟩ := h.cells h0
    exact ⟨g, off, e, Nat.lt_of_lt_of_le hg b.size, fun i m hm => (b.cell (p := ⟨g, off + i, none⟩) hg).trans (hc i m hm)⟩, h.nil⟩
theorem IsI.small {w : World} {A : Option Addr} {n c : Nat} {l : List Int} (h : IsI w A n c l) : n ≤ 9223372036854775807 := by
  have := h.le; have := h.max; unfold maxLen at this; omega

/-- A view. -/
structure Vw where
  nodes : Int
  epoch : Int
  mem : List Mb
  dead : List Mb
  incs : List Int
/-- How a view's value is spelled. -/
structure Vx where
  nodes : Int
  epoch : Int
  mA : Option Addr
  mn : Nat
  mc : Nat
  dA : Option Addr
  dn : Nat
  dc : Nat
  iA : Option Addr
  ir : Nat
  ic : Nat
@[reducible] def vV (x : Vx) : Value := .agg #[.int .i64 x.nodes, .int .i64 x.epoch, .slice x.mA x.mn x.mc, .slice x.dA x.dn x.dc, .slice x.iA x.ir x.ic]
@[reducible] def vC (x : Vx) : Array Value := #[.int .i64 x.nodes, .int .i64 x.epoch, .slice x.mA x.mn x.mc, .slice x.dA x.dn x.dc, .slice x.iA x.ir x.ic]
structure IsV (w : World) (x : Vx) (V : Vw) : Prop where
  nodes : x.nodes = V.nodes
  epoch : x.epoch = V.epoch
  mem : IsL w x.mA x.mn x.mc V.mem
  dead : IsL w x.dA x.dn x.dc V.dead
  incs : IsI w x.iA x.ir x.ic V.incs
theorem IsV.below {w w' : World} {x : Vx} {V : Vw} (h : IsV w x V) (b : Below w.heap.size w w') : IsV w' x V :=
  ⟨h.nodes, h.epoch, h.mem.below b, h.dead.below b, h.incs.below b⟩
/-- A view in a block of its own. -/
structure BoxV (w : World) (b : Nat) (x : Vx) : Prop where
  blk : w.heap[b]? = some (.cells (vC x) 25 (0, 0))
theorem BoxV.lt {w : World} {b : Nat} {x : Vx} (h : BoxV w b x) : b < w.heap.size := by
  rcases Nat.lt_or_ge b w.heap.size with hlt | hge
  · exact hlt
  · have := h.blk; rw [Array.getElem?_eq_none hge] at this; cases this
theorem BoxV.cells {w : World} {b : Nat} {x : Vx} (h : BoxV w b x) : w.cell? ⟨b, 0, none⟩ = some (.int .i64 x.nodes) ∧ w.cell? ⟨b, 1, none⟩ = some (.int .i64 x.epoch) ∧ w.cell? ⟨b, 2, none⟩ = some (.slice x.mA x.mn x.mc) ∧ w.cell? ⟨b, 3, none⟩ = some (.slice x.dA x.dn x.dc) ∧ w.cell? ⟨b, 4, none⟩ = some (.slice x.iA x.ir x.ic) := by
  have := h.blk
  refine ⟨?_, ?_, ?_, ?_, ?_⟩ <;> simp [World.cell?, this]
theorem BoxV.free {w : World} {b : Nat} {x : Vx} (h : BoxV w b x) (o : Nat) : w.frozen? ⟨b, o, none⟩ = false := by
  have := h.blk
  simp [World.frozen?, this]
theorem BoxV.below {w w' : World} {b : Nat} {x : Vx} (h : BoxV w b x) (m : Below w.heap.size w w') : BoxV w' b x := ⟨(m.block b h.lt).trans h.blk⟩
theorem BoxV.new (w : World) (x : Vx) : BoxV (w.alloc (.cells (vC x) 25)) w.heap.size x := ⟨heap_alloc_new w _⟩

/-- A member in a block of its own. -/
structure BoxM (w : World) (b : Nat) (m : Mb) : Prop where
  blk : w.heap[b]? = some (.cells #[.int .i64 m.1, .int .i64 m.2.1, .bool m.2.2] 43 (0, 0))
theorem BoxM.lt {w : World} {b : Nat} {m : Mb} (h : BoxM w b m) : b < w.heap.size := by
  rcases Nat.lt_or_ge b w.heap.size with hlt | hge
  · exact hlt
  · have := h.blk; rw [Array.getElem?_eq_none hge] at this; cases this
theorem BoxM.cells {w : World} {b : Nat} {m : Mb} (h : BoxM w b m) : w.cell? ⟨b, 0, none⟩ = some (.int .i64 m.1) ∧ w.cell? ⟨b, 1, none⟩ = some (.int .i64 m.2.1) ∧ w.cell? ⟨b, 2, none⟩ = some (.bool m.2.2) := by
  have := h.blk
  refine ⟨?_, ?_, ?_⟩ <;> simp [World.cell?, this]
theorem BoxM.free {w : World} {b : Nat} {m : Mb} (h : BoxM w b m) (o : Nat) : w.frozen? ⟨b, o, none⟩ = false := by
  have := h.blk
  simp [World.frozen?, this]
theorem BoxM.below {w w' : World} {b : Nat} {m : Mb} (h : BoxM w b m) (k : Below w.heap.size w w') : BoxM w' b m := ⟨(k.block b h.lt).trans h.blk⟩
theorem BoxM.new (w : World) (m : Mb) : BoxM (w.alloc (.cells #[.int .i64 m.1, .int .i64 m.2.1, .bool m.2.2] 43)) w.heap.size m := ⟨heap_alloc_new w _⟩

/-- A closure that asks of a member whether it is so. -/
structure Clos (w : World) (k : FuncId) (caps : List Value) (p : Mb → Bool) : Prop where
  run : ∀ u, Below w.heap.size w u → ∀ m, Calls Try.prog k (mbV m :: caps).toArray u fun e u' => e = .returned (.bool (p m)) ∧ Below u.heap.size u u'
theorem Clos.below {w w' : World} {k : FuncId} {caps : List Value} {p : Mb → Bool} (h : Clos w k caps p) (b : Below w.heap.size w w') : Clos w' k caps p :=
  ⟨fun u hu m => h.run u (b.trans (hu.mono b.size)) m⟩
/-! ### which is the first that is so -/
theorem fi_step {α : Type} {l : List α} {p : α → Bool} {i : Nat} {m : α} (h : i ≤ l.findIdx p) (hm : l[i]? = some m) (hp : p m = false) : i + 1 ≤ l.findIdx p := by
  rcases Nat.lt_or_ge i (l.findIdx p) with h1 | h1
  · exact h1
  · have e : l.findIdx p = i := Nat.le_antisymm h1 h
    obtain ⟨hi, hg⟩ := List.getElem?_eq_some_iff.1 hm
    have := List.findIdx_getElem (xs := l) (p := p) (w := by omega)
    simp only [e] at this
    rw [hg, hp] at this
    cases this
theorem fi_stop {α : Type} {l : List α} {p : α → Bool} {i : Nat} {m : α} (h : i ≤ l.findIdx p) (hm : l[i]? = some m) (hp : p m = true) : l.findIdx p = i := by
  obtain ⟨hi, hg⟩ := List.getElem?_eq_some_iff.1 hm
  rcases Nat.lt_or_ge i (l.findIdx p) with h1 | h1
  · have := List.not_of_lt_findIdx h1
    rw [hg, hp] at this
    simp at this
  · omega
theorem fi_end {α : Type} {l : List α} {p : α → Bool} {n : Nat} (hn : l.length = n) (h : n ≤ l.findIdx p) : l.findIdx p = n := by
  have := List.findIdx_le_length (xs := l) (p := p)
  omega
theorem fi_some {α : Type} (l : List α) (p : α → Bool) : (l.findIdx p < l.length) ↔ l.any p = true := by
  rw [List.findIdx_lt_length, List.any_eq_true]
end Go.Proofs.Ytnbhjehaecifcaa
