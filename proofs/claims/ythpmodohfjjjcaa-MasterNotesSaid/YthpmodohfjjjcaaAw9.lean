
/- A statement's queue in a block; the chapter's examples. -/
import Derived.Test.YthpmodohfjjjcaaPq9
namespace Go.Proofs.Ythpmodohfjjjcaa
open Go.RowKit

/-- What can be read of claims in the one world can be read in the other. -/
def Kp (w w' : World) : Prop := ∀ A n l, IsC w A n l → IsC w' A n l
theorem Kp.of {w w' : World} (b : Below w.heap.size w w') : Kp w w' := fun _ _ _ h => h.below b
theorem Kp.trans {a b c : World} (h : Kp a b) (k : Kp b c) : Kp a c := fun A n l x => k A n l (h A n l x)
/-- A block that is a queue. -/
structure BoxQ (w : World) (b : Nat) (h ws : List Cl) : Prop where
  is : ∃ A n c A2 n2 c2, w.cell? ⟨b, 0, none⟩ = some (.slice A n c) ∧ w.cell? ⟨b, 1, none⟩ = some (.slice A2 n2 c2) ∧ IsC w A n h ∧ IsC w A2 n2 ws
  f0 : w.frozen? ⟨b, 0, none⟩ = false
  f1 : w.frozen? ⟨b, 1, none⟩ = false
theorem BoxQ.lt {w : World} {b : Nat} {h ws : List Cl} (x : BoxQ w b h ws) : b < w.heap.size := by
  obtain ⟨A, n, c, A2, n2, c2, h0, _⟩ := x.is
  exact lt_of_cell h0
theorem BoxQ.below {w w' : World} {b : Nat} {h ws : List Cl} (x : BoxQ w b h ws) (k : Below w.heap.size w w') : BoxQ w' b h ws := by
  have hl := x.lt
  obtain ⟨A, n, c, A2, n2, c2, h0, h1, i1, i2⟩ := x.is
  exact ⟨⟨A, n, c, A2, n2, c2, (k.cell (p := ⟨b, 0, none⟩) hl).trans h0, (k.cell (p := ⟨b, 1, none⟩) hl).trans h1, i1.below k, i2.below k⟩, (k.frozen (p := ⟨b, 0, none⟩) hl).trans x.f0, (k.frozen (p := ⟨b, 1, none⟩) hl).trans x.f1⟩
theorem BoxQ.new (w : World) : BoxQ (w.alloc (.cells #[.slice none 0 0, .slice none 0 0] 57)) w.heap.size [] [] :=
  ⟨⟨none, 0, 0, none, 0, 0, by simp [go_sem], by simp [go_sem], ⟨rfl, Nat.zero_le _, by simp, fun h => by omega⟩, ⟨rfl, Nat.zero_le _, by simp, fun h => by omega⟩⟩, by simp [go_sem], by simp [go_sem]⟩
/-- The world with another queue in a block. -/
def setQ (w : World) (b : Nat) (v1 v2 : Value) : World := (w.setCell ⟨b, 0, none⟩ v1).setCell ⟨b, 1, none⟩ v2
theorem BoxQ.kp {w : World} {b : Nat} {h ws : List Cl} (x : BoxQ w b h ws) (v1 v2 : Value) : Kp w (setQ w b v1 v2) := by
  obtain ⟨A, n, c, A2, n2, c2, h0, h1, _⟩ := x.is
  intro B m l hi
  exact (hi.set_slice h0 v1).set_slice (set_other (by simp) h1) v2
theorem BoxQ.set {w : World} {b : Nat} {h ws : List Cl} (x : BoxQ w b h ws) {A A2 : Option Addr} {n c n2 c2 : Nat} {h' ws' : List Cl} (i1 : IsC w A n h') (i2 : IsC w A2 n2 ws') : BoxQ (setQ w b (.slice A n c) (.slice A2 n2 c2)) b h' ws' := by
  have k := x.kp (.slice A n c) (.slice A2 n2 c2)
  obtain ⟨B, m, d, B2, m2, d2, h0, h1, _⟩ := x.is
  exact ⟨⟨A, n, c, A2, n2, c2, set_other (by simp) (set_same h0), set_same (set_other (by simp) h1), k _ _ _ i1, k _ _ _ i2⟩, by unfold setQ; rw [World.frozen?_setCell, World.frozen?_setCell]; exact x.f0, by unfold setQ; rw [World.frozen?_setCell, World.frozen?_setCell]; exact x.f1⟩
theorem BoxQ.other {w : World} {b b' : Nat} {h ws h' ws' : List Cl} (x : BoxQ w b h ws) (y : BoxQ w b' h' ws') (hne : b' ≠ b) (v1 v2 : Value) : BoxQ (setQ w b v1 v2) b' h' ws' := by
  have k := x.kp v1 v2
  obtain ⟨B, m, d, B2, m2, d2, h0, h1, i1, i2⟩ := y.is
  exact ⟨⟨B, m, d, B2, m2, d2, set_other (by simp) (set_other (by simp) h0), set_other (by simp) (set_other (by simp) h1), k _ _ _ i1, k _ _ _ i2⟩, by unfold setQ; rw [World.frozen?_setCell, World.frozen?_setCell]; exact y.f0, by unfold setQ; rw [World.frozen?_setCell, World.frozen?_setCell]; exact y.f1⟩
theorem setQ_mod (w : World) (b : Nat) (v1 v2 : Value) : Mod (· = b) w (setQ w b v1 v2) := ((Mod.refl _ w).set1 _).set1 _
theorem setQ_below {w u : World} {b : Nat} (h : Below w.heap.size w u) (hb : w.heap.size ≤ b) (v1 v2 : Value) : Below w.heap.size w (setQ u b v1 v2) := bmod h (setQ_mod u b v1 v2) hb
theorem isq_nil (w : World) : IsQ w (.agg #[.slice none 0 0, .slice none 0 0]) [] [] := ⟨none, 0, 0, none, 0, 0, rfl, ⟨rfl, Nat.zero_le _, by simp, fun h => by omega⟩, ⟨rfl, Nat.zero_le _, by simp, fun h => by omega⟩⟩
/-- One claim, read. -/
theorem IsC.first {w : World} {A : Option Addr} {n : Nat} {c : Cl} {l : List Cl} (h : IsC w A n (c :: l)) : ∃ g off, A = some ⟨g, off, none⟩ ∧ w.cell? ⟨g, off, none⟩ = some (.int .i64 c.1) ∧ w.cell? ⟨g, off + 1, none⟩ = some (.int .i64 c.2) ∧ n = l.length + 1 := by
  have hl := h.length
  rw [List.length_cons] at hl
  obtain ⟨g, off, e, _, hc⟩ := h.cells (by omega)
  obtain ⟨c0, c1⟩ := hc 0 c rfl
  rw [Nat.zero_mul, Nat.add_zero] at c0 c1
  exact ⟨g, off, e, c0, c1, hl.symm⟩
theorem IsC.none {w : World} {A : Option Addr} {n : Nat} (h : IsC w A n []) : n = 0 := by have := h.length; simpa using this.symm
theorem awake_ok : OkQ [(1, 1)] [] ∧ OkQ [(1, 1), (2, 1)] [] ∧ OkQ [(1, 1), (2, 1)] [(3, 2)] ∧ OkQ [(2, 1)] [(3, 2)] ∧ OkQ [(3, 2)] [] := by
  have k1 : OkQ [(1, 1)] [] := new_ok .want ok_empty 1 1
  have k2 : OkQ [(1, 1), (2, 1)] [] := new_ok .want k1 2 1
  have k3 : OkQ [(1, 1), (2, 1)] [(3, 2)] := new_ok .want k2 3 2
  have k4 : OkQ [(2, 1)] [(3, 2)] := new_ok .drop k3 1 0
  have k5 : OkQ [(3, 2)] [] := new_ok .drop k4 2 0
  exact ⟨k1, k2, k3, k4, k5⟩
end Go.Proofs.Ythpmodohfjjjcaa
