/- Views that a statement keeps in blocks of its own. -/
import Derived.Test.YtnbhjehaecifcaaAwake06
namespace Go.Proofs.Ytnbhjehaecifcaa
open Go.RowKit

theorem and_small (x : Int) (m : Nat) (hm : m = 3 ∨ m = 7) : ∃ k : Nat, Hid (bits .and .i64 x (m : Int) = (k : Int)) ∧ k ≤ m := by
  have h2 : (BitVec.ofInt 64 x &&& BitVec.ofInt 64 (m : Int)).toNat ≤ m := by
    rw [BitVec.toNat_and]
    have e : (BitVec.ofInt 64 (m : Int)).toNat = m := by rcases hm with rfl | rfl <;> decide
    rw [e]
    exact Nat.and_le_right
  refine ⟨(BitVec.ofInt 64 x &&& BitVec.ofInt 64 (m : Int)).toNat, Lib.hid ?_, h2⟩
  show IntKind.i64.wrap ((BitVec.ofInt 64 x &&& BitVec.ofInt 64 (m : Int)).toNat : Int) = _
  rw [IntWalk.i64_in _ (by omega)]
/-- A statement's own variable: a view in block g; its lists lie in none of the statement's blocks S. -/
structure Var (w : World) (S : Nat → Prop) (g : Nat) (x : Vx) (V : Vw) : Prop where
  box : BoxV w g x
  told : Told w 0 x V
  away : ∀ h, blk (mS x) = some h ∨ blk (dS x) = some h ∨ blk (iS x) = some h → ¬ S h
theorem Told.low {w : World} {B : Nat} {x : Vx} {V : Vw} (h : Told w B x V) : Told w 0 x V :=
  { h with newM := fun _ _ => Nat.zero_le _, newD := fun _ _ => Nat.zero_le _, newI := fun _ _ => Nat.zero_le _ }
theorem Told.below {w w' : World} {B : Nat} {x : Vx} {V : Vw} (h : Told w B x V) (m : Below w.heap.size w w') : Told w' B x V :=
  h.kept (Mod.of_below (S := fun _ => False) m) (fun _ e => e.elim)
theorem Told.lt {w : World} {B : Nat} {x : Vx} {V : Vw} (h : Told w B x V) {g : Nat} (hg : blk (mS x) = some g ∨ blk (dS x) = some g ∨ blk (iS x) = some g) : B ≤ g ∧ g < w.heap.size := by
  rcases hg with hg | hg | hg
  · exact ⟨h.newM g hg, h.mem.blk_lt hg⟩
  · exact ⟨h.newD g hg, h.dead.blk_lt hg⟩
  · exact ⟨h.newI g hg, h.incs.blk_lt hg⟩
section
variable {w w' : World} {S : Nat → Prop} {g : Nat} {x : Vx} {V : Vw}
theorem Var.isV (h : Var w S g x V) : IsV w x V := h.told.isV
theorem Var.below (h : Var w S g x V) (m : Below w.heap.size w w') : Var w' S g x V := ⟨h.box.below m, h.told.below m, h.away⟩
theorem Var.kept (h : Var w S g x V) {g' : Nat} (m : Mod (· = g') w w') (hs : S g') (hne : g ≠ g') : Var w' S g x V :=
  ⟨h.box.kept m hne, h.told.kept m (fun i e => by
    have e' : i = g' := e
    subst e'
    exact ⟨fun h1 => h.away _ (.inl h1) hs, fun h1 => h.away _ (.inr (.inl h1)) hs, fun h1 => h.away _ (.inr (.inr h1)) hs⟩), h.away⟩
/-- Another view put into it. -/
theorem Var.store (h : Var w S g x V) {B : Nat} {x' : Vx} {V' : Vw} (b : Below w.heap.size w w') (t : Told w' B x' V') (hs : ∀ h, S h → h < B) (hg : S g) : Var (setV w' g x') S g x' V' := by
  have ha : ∀ h, blk (mS x') = some h ∨ blk (dS x') = some h ∨ blk (iS x') = some h → ¬ S h := fun i hi hS => by
    have := (t.lt hi).1; have := hs i hS; omega
  exact ⟨setV_box (h.box.below b) x', (t.kept (setV_mod w' g x') (fun i e => by
    have e' : i = g := e
    subst e'
    exact ⟨fun h1 => ha _ (.inl h1) hg, fun h1 => ha _ (.inr (.inl h1)) hg, fun h1 => ha _ (.inr (.inr h1)) hg⟩)).low, ha⟩
/-- .. made. -/
theorem Var.new {B : Nat} (t : Told w B x V) (hs : ∀ h, S h → h < B ∨ w.heap.size ≤ h) : Var (w.alloc (.cells (vC x) 25)) S w.heap.size x V :=
  ⟨BoxV.new w x, (t.below ((Below.refl _ _).alloc (Nat.le_refl _) _)).low, fun i hi hS => by
    have := t.lt hi; have := hs i hS; omega⟩
end
theorem join_grow (V : Vw) (node : Int) : (joinV V node).nodes = V.nodes ∧ (joinV V node).mem.length ≤ V.mem.length + 1 ∧ (joinV V node).dead.length ≤ V.dead.length + 1 ∧ (joinV V node).incs.length = V.incs.length := by
  obtain ⟨h1, h2, h3, _, h5⟩ := died_len V node
  unfold joinV
  split
  · refine ⟨h5, ?_, h2, ?_⟩
    · simp only [turnV, comeV, ins, List.length_map, List.length_append, List.length_take, List.length_drop, List.length_singleton]
      omega
    · simp only [turnV, comeV, List.length_set, h3]
  · exact ⟨rfl, by omega, by omega, rfl⟩
theorem clamp_small {k : Nat} (h1 : 1 ≤ k) (h2 : k ≤ 8) : clampN (k : Int) = k := by unfold clampN; omega
end Go.Proofs.Ytnbhjehaecifcaa
