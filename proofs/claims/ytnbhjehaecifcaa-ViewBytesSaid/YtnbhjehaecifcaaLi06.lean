/- A view's lists, away from a statement's blocks: for views that came in and views that the document tells. -/
import Derived.Test.YtnbhjehaecifcaaVo06
import Derived.Test.YtnbhjehaecifcaaRg6
namespace Go.Proofs.Ytnbhjehaecifcaa
open Go.RowKit

/-- A view's lists lie away from a set of blocks. -/
structure Li (w : World) (S : Nat → Prop) (x : Vx) (V : Vw) : Prop where
  isV : IsV w x V
  mem : 0 < x.mn → ∀ i, blk (mS x) = some i → ¬ S i
  dead : 0 < x.dn → ∀ i, blk (dS x) = some i → ¬ S i
  incs : 0 < x.ir → ∀ i, blk (iS x) = some i → ¬ S i
section
variable {w w' : World} {S S' T : Nat → Prop} {x x' : Vx} {V V' : Vw}
theorem Li.below (h : Li w S x V) (m : Below w.heap.size w w') : Li w' S x V := ⟨h.isV.below m, h.mem, h.dead, h.incs⟩
theorem Li.mod (h : Li w S x V) (m : Mod T w w') (ht : ∀ i, T i → S i) : Li w' S x V :=
  ⟨⟨h.isV.nodes, h.isV.epoch, h.isV.mem.kept m (fun hn i hi e => h.mem hn i hi (ht i e)), h.isV.dead.kept m (fun hn i hi e => h.dead hn i hi (ht i e)), h.isV.incs.kept m (fun hn i hi e => h.incs hn i hi (ht i e))⟩, h.mem, h.dead, h.incs⟩
theorem Li.wider (h : Li w S x V) (hs : ∀ i, S' i → S i ∨ w.heap.size ≤ i) : Li w S' x V :=
  ⟨h.isV, fun hn i hi e => by
    rcases hs i e with h1 | h1
    · exact h.mem hn i hi h1
    · have := h.isV.mem.lowB hn i hi; omega, fun hn i hi e => by
    rcases hs i e with h1 | h1
    · exact h.dead hn i hi h1
    · have := h.isV.dead.lowB hn i hi; omega, fun hn i hi e => by
    rcases hs i e with h1 | h1
    · exact h.incs hn i hi h1
    · have := h.isV.incs.lowB hn i hi; omega⟩
/-- A view that came in: the statement's blocks are newer. -/
theorem Li.of (h : IsV w x V) (m : Below w.heap.size w w') (hs : ∀ i, S i → w.heap.size ≤ i) : Li w' S x V :=
  ⟨h.below m, fun hn i hi e => by have := h.mem.lowB hn i hi; have := hs i e; omega, fun hn i hi e => by have := h.dead.lowB hn i hi; have := hs i e; omega, fun hn i hi e => by have := h.incs.lowB hn i hi; have := hs i e; omega⟩
/-- A view that the document told of this one. -/
theorem Li.far (h : Li w S x V) (f : Far w.heap.size x x') (h' : IsV w' x' V') (hs : ∀ i, S i → i < w.heap.size) : Li w' S x' V' :=
  ⟨h', fun hn i hi e => by
    rcases f.mem i hn hi with ⟨h1, h2⟩ | h1
    · exact h.mem h1 i h2 e
    · have := hs i e; omega, fun hn i hi e => by
    rcases f.dead i hn hi with ⟨h1, h2⟩ | h1
    · exact h.dead h1 i h2 e
    · have := hs i e; omega, fun hn i hi e => by
    rcases f.incs i hn hi with ⟨h1, h2⟩ | h1
    · exact h.incs h1 i h2 e
    · have := hs i e; omega⟩
/-- A view that the program told. -/
theorem Li.told {B : Nat} (t : Told w B x V) (hs : ∀ i, S i → i < B) : Li w S x V :=
  ⟨t.isV, fun _ i hi e => by have := (t.lt (.inl hi)).1; have := hs i e; omega, fun _ i hi e => by have := (t.lt (.inr (.inl hi))).1; have := hs i e; omega, fun _ i hi e => by have := (t.lt (.inr (.inr hi))).1; have := hs i e; omega⟩
end
/-- A change leaves a view's lists no more than one longer. -/
theorem join_len (V : Vw) (node : Int) : (joinV V node).mem.length ≤ V.mem.length + 1 ∧ (joinV V node).dead.length ≤ V.dead.length + 1 ∧ (joinV V node).incs.length = V.incs.length := by
  unfold joinV
  split
  · have h := died_len V node
    refine ⟨?_, ?_, ?_⟩
    · simp [turnV, comeV, ins]; omega
    · simp [turnV, comeV]; omega
    · simp [turnV, comeV, h.2.2.1]
  · omega
theorem leave_len (V : Vw) (by_ node : Int) : (leaveV V by_ node).mem.length ≤ V.mem.length ∧ (leaveV V by_ node).dead.length ≤ V.dead.length + 1 ∧ (leaveV V by_ node).incs = V.incs := by
  unfold leaveV
  split
  · split
    · refine ⟨?_, ?_, rfl⟩
      · simp [turnV, dieV]; omega
      · simp [turnV, dieV]; omega
    · exact ⟨Nat.le_refl _, Nat.le_succ _, rfl⟩
  · exact ⟨Nat.le_refl _, Nat.le_succ _, rfl⟩
theorem ready_len (V : Vw) (node inc : Int) : (readyV V node inc).mem.length = V.mem.length ∧ (readyV V node inc).dead = V.dead ∧ (readyV V node inc).incs = V.incs := by
  cases h : readyB V node inc with
  | false => rw [ready_not h]; exact ⟨rfl, rfl, rfl⟩
  | true =>
    obtain ⟨m, _, _, e⟩ := ready_parts h
    rw [e]
    exact ⟨by simp, rfl, rfl⟩
theorem bury_len (V : Vw) (node inc : Int) : (buryV V node inc).mem = V.mem ∧ (buryV V node inc).dead.length ≤ V.dead.length ∧ (buryV V node inc).incs = V.incs := by
  unfold buryV
  split
  · refine ⟨rfl, ?_, rfl⟩
    simp
    omega
  · exact ⟨rfl, Nat.le_refl _, rfl⟩
end Go.Proofs.Ytnbhjehaecifcaa
