
/- The document's Bury, Leave, Ready, Join. -/
import Derived.Test.YtnbhjehaecifcaaRc06
import Derived.Test.YtnbhjehaecifcaaPl06
namespace Go.Proofs.Ytnbhjehaecifcaa
open Go.RowKit

/-- A slice told is the one that was there, or one that is new. -/
def FarS (n : Nat) (k k' : Nat) (v v' : Value) : Prop := ∀ i, 0 < k' → blk v' = some i → (0 < k ∧ blk v = some i) ∨ n ≤ i
theorem FarS.same {n k : Nat} {v : Value} : FarS n k k v v := fun _ h e => .inl ⟨h, e⟩
theorem FarS.new {n k k' : Nat} {v v' : Value} (h : ∀ i, blk v' = some i → n ≤ i) : FarS n k k' v v' := fun i _ e => .inr (h i e)
structure Far (n : Nat) (x x' : Vx) : Prop where
  mem : FarS n x.mn x'.mn (mS x) (mS x')
  dead : FarS n x.dn x'.dn (dS x) (dS x')
  incs : FarS n x.ir x'.ir (iS x) (iS x')
theorem Far.refl (n : Nat) (x : Vx) : Far n x x := ⟨FarS.same, FarS.same, FarS.same⟩
theorem OwnL.isL {w : World} {B : Nat} {A : Option Addr} {n c : Nat} {l : List Mb} (h : OwnL w B A n c l) : IsL w A n c l := h.row.isL
theorem IsL.kept {S : Nat → Prop} {w w' : World} {A : Option Addr} {n c : Nat} {l : List Mb} (h : IsL w A n c l) (m : Mod S w w') (hs : 0 < n → ∀ g, blk (.slice A n c) = some g → ¬ S g) : IsL w' A n c l :=
  ⟨h.length, h.le, h.max, fun h0 => by
    obtain ⟨g, off, e, hg, hc⟩ := h.cells h0
    subst e
    have hn := hs h0 g rfl
    refine ⟨g, off, rfl, Nat.lt_of_lt_of_le hg m.size, fun i q hq => ?_⟩
    obtain ⟨c0, c1, c2⟩ := hc i q hq
    exact ⟨(m.cell (p := ⟨g, off + i * 3, none⟩) hg hn).trans c0, (m.cell (p := ⟨g, off + i * 3 + 1, none⟩) hg hn).trans c1, (m.cell (p := ⟨g, off + i * 3 + 2, none⟩) hg hn).trans c2⟩, h.nil⟩
/-- The lists of a view that is copied. -/
theorem IsV.deadTo {w w' : World} {x : Vx} {V : Vw} (h : IsV w x V) (m : Below w.heap.size w w') {A : Option Addr} {n c : Nat} {l : List Mb} (k : IsL w' A n c l) : IsV w' { x with dA := A, dn := n, dc := c } { V with dead := l } :=
  ⟨h.nodes, h.epoch, h.mem.below m, k, h.incs.below m⟩
end Go.Proofs.Ytnbhjehaecifcaa
