/-
  No cell of these rows narrows 'for every input' (looked for: loops, veiled, ifaces, maps, wideKeys, modest, calm, conditions, laid).
  DERIVED. THE GIVEN ROWS OF THIS SEAT. 5 by the template 'for every input the law returns true; each argument reads behind the call as it read before'; 0 by the template 'total and deterministic' (their statements: YtnddfekgbabmdaaTotals.lean).
  GIVEN WITH THE SEED: the statements are not yours to turn. If you find one false, say at which input.
  Laid BY PROGRAM, IN A SANDBOX (cutbox-rows.mjs): the forced cells as the released guide's own fill.sh prints them over the translation cf35ed1d98b5c8fe… (all of the seat's roots in one cut). By AI agents, Wed Nov 11 2026. No macro, syntax, notation, axiom, sorry.
-/
import Derived.Test.YtnddfekgbabmdaaChecked
import GoSem.Claim
import GoSem.ClaimJoined
import GoSem.ClaimMapViews
import Derived.JoinedTies
import Derived.KernelRfl
namespace Go.Proofs.Ytnddfekgbabmdaa
/- THE CELL 'sum', in the pinned program and in every row, IS THE sha256 OF THE DUMP (.gsa) THAT YtnddfekgbabmdaaProg.lean LOADS. Nothing in Lean hashes anything: it is a label: what it is worth is what the hold of that sum in a sandbox is worth. -/
noncomputable def Try.pinned : Pinned := { name := "ytnddfekgbabmdaa", sum := "cf35ed1d98b5c8fe5fde029f1a81fc05aa067f83c5a910848a6d7e133074bfe5", checked := Try.checked }
namespace Rows
def none {H : Type} : Left H := { results := [], args := [] }

/-- 'lockgatelaw13.LayoutMakes': WHATEVER THE INPUT: true; the input reads as it did. -/
def layoutMakesSpec : ChangeSpec := { name := "layoutMakes", fn := fun _ => fun
  | [d1, d2, d3] => { results := [.lit (.bool true)], args := [d1, d2, d3] }
  | _ => none }
def layoutMakesRow : OpenClaim := { program := "ytnddfekgbabmdaa", sum := "cf35ed1d98b5c8fe5fde029f1a81fc05aa067f83c5a910848a6d7e133074bfe5", func := "lockgate/lockgatelaw13.LayoutMakes", spec := "layoutMakes", unfollowed := true, recurses := true, apart := false }
def LayoutMakesSaid : Prop := layoutMakesRow.holds Try.pinned (OpenSpec.ofChange layoutMakesSpec)

/-- ITS FALSE NEIGHBOUR: 'it returns false'. Refute it at one input. -/
def layoutMakesWrong : ChangeSpec := { name := "layoutMakes", fn := fun _ => fun
  | [d1, d2, d3] => { results := [.lit (.bool false)], args := [d1, d2, d3] }
  | _ => none }
def LayoutMakesWrongFalsely : Prop := layoutMakesRow.holds Try.pinned (OpenSpec.ofChange layoutMakesWrong)

/-- 'lockgatelaw13.LayoutPlaces': WHATEVER THE INPUT: true; the input reads as it did. -/
def layoutPlacesSpec : ChangeSpec := { name := "layoutPlaces", fn := fun _ => fun
  | [d1, d2] => { results := [.lit (.bool true)], args := [d1, d2] }
  | _ => none }
def layoutPlacesRow : OpenClaim := { program := "ytnddfekgbabmdaa", sum := "cf35ed1d98b5c8fe5fde029f1a81fc05aa067f83c5a910848a6d7e133074bfe5", func := "lockgate/lockgatelaw13.LayoutPlaces", spec := "layoutPlaces", inPlace := ["internal/abi.NoEscape", "internal/bytealg.MakeNoZero"], apart := false }
def LayoutPlacesSaid : Prop := layoutPlacesRow.holds Try.pinned (OpenSpec.ofChange layoutPlacesSpec)

/-- ITS FALSE NEIGHBOUR: 'it returns false'. Refute it at one input. -/
def layoutPlacesWrong : ChangeSpec := { name := "layoutPlaces", fn := fun _ => fun
  | [d1, d2] => { results := [.lit (.bool false)], args := [d1, d2] }
  | _ => none }
def LayoutPlacesWrongFalsely : Prop := layoutPlacesRow.holds Try.pinned (OpenSpec.ofChange layoutPlacesWrong)

/-- 'lockgatelaw13.LayoutApart': WHATEVER THE INPUT: true; the input reads as it did. -/
def layoutApartSpec : ChangeSpec := { name := "layoutApart", fn := fun _ => fun
  | [d1, d2, d3] => { results := [.lit (.bool true)], args := [d1, d2, d3] }
  | _ => none }
def layoutApartRow : OpenClaim := { program := "ytnddfekgbabmdaa", sum := "cf35ed1d98b5c8fe5fde029f1a81fc05aa067f83c5a910848a6d7e133074bfe5", func := "lockgate/lockgatelaw13.LayoutApart", spec := "layoutApart", apart := false }
def LayoutApartSaid : Prop := layoutApartRow.holds Try.pinned (OpenSpec.ofChange layoutApartSpec)

/-- ITS FALSE NEIGHBOUR: 'it returns false'. Refute it at one input. -/
def layoutApartWrong : ChangeSpec := { name := "layoutApart", fn := fun _ => fun
  | [d1, d2, d3] => { results := [.lit (.bool false)], args := [d1, d2, d3] }
  | _ => none }
def LayoutApartWrongFalsely : Prop := layoutApartRow.holds Try.pinned (OpenSpec.ofChange layoutApartWrong)

/-- 'lockgatelaw13.LayoutFills': WHATEVER THE INPUT: true; the input reads as it did. -/
def layoutFillsSpec : ChangeSpec := { name := "layoutFills", fn := fun _ => fun
  | [d1, d2] => { results := [.lit (.bool true)], args := [d1, d2] }
  | _ => none }
def layoutFillsRow : OpenClaim := { program := "ytnddfekgbabmdaa", sum := "cf35ed1d98b5c8fe5fde029f1a81fc05aa067f83c5a910848a6d7e133074bfe5", func := "lockgate/lockgatelaw13.LayoutFills", spec := "layoutFills", apart := false }
def LayoutFillsSaid : Prop := layoutFillsRow.holds Try.pinned (OpenSpec.ofChange layoutFillsSpec)

/-- ITS FALSE NEIGHBOUR: 'it returns false'. Refute it at one input. -/
def layoutFillsWrong : ChangeSpec := { name := "layoutFills", fn := fun _ => fun
  | [d1, d2] => { results := [.lit (.bool false)], args := [d1, d2] }
  | _ => none }
def LayoutFillsWrongFalsely : Prop := layoutFillsRow.holds Try.pinned (OpenSpec.ofChange layoutFillsWrong)

/-- 'lockgatelaw13.LayoutOne': WHATEVER THE INPUT: true; the input reads as it did. -/
def layoutOneSpec : ChangeSpec := { name := "layoutOne", fn := fun _ => fun
  | [d1, d2] => { results := [.lit (.bool true)], args := [d1, d2] }
  | _ => none }
def layoutOneRow : OpenClaim := { program := "ytnddfekgbabmdaa", sum := "cf35ed1d98b5c8fe5fde029f1a81fc05aa067f83c5a910848a6d7e133074bfe5", func := "lockgate/lockgatelaw13.LayoutOne", spec := "layoutOne", unfollowed := true, recurses := true, apart := false }
def LayoutOneSaid : Prop := layoutOneRow.holds Try.pinned (OpenSpec.ofChange layoutOneSpec)

/-- ITS FALSE NEIGHBOUR: 'it returns false'. Refute it at one input. -/
def layoutOneWrong : ChangeSpec := { name := "layoutOne", fn := fun _ => fun
  | [d1, d2] => { results := [.lit (.bool false)], args := [d1, d2] }
  | _ => none }
def LayoutOneWrongFalsely : Prop := layoutOneRow.holds Try.pinned (OpenSpec.ofChange layoutOneWrong)

/- THE SECOND FORM. 'bulk': how many values and letters a reading holds, each counted each time it is reached (what is shared counts as often as it is met; a slice's spare places count too). A statement '..UptoSaid' is the law's where the arguments, and the package variables that the reading takes, are together of bulk at most 1048576: NARROWER than '..Said'. Prove '..Said' where nothing that the law and all that it calls make is longer than what came in: it says more and counts as full. Else prove '..UptoSaid'. A law counts once. -/
mutual
def uptoBulk {H : Type} : DataW H → Nat
  | .lit (.string bytes) => bytes.length + 1
  | .lit _ => 1
  | .nil => 1
  | .ptr d => uptoBulk d + 1
  | .slice elems spare => uptoBulkAll elems + uptoBulkAll spare + 1
  | .agg parts => uptoBulkAll parts + 1
  | .iface _ d => uptoBulk d + 1
  | .map entries => uptoBulkEntries entries + 1
  | .held _ => 1
def uptoBulkAll {H : Type} : List (DataW H) → Nat
  | [] => 0
  | d :: r => uptoBulk d + uptoBulkAll r
def uptoBulkEntries {H : Type} : List (Lit × DataW H) → Nat
  | [] => 0
  | x :: r => uptoBulkEntry x + uptoBulkEntries r
def uptoBulkEntry {H : Type} : Lit × DataW H → Nat
  | (.string bytes, d) => bytes.length + uptoBulk d + 1
  | (_, d) => uptoBulk d + 1
 end
def uptoSmall : (H : Type) → List (DataW H) → Bool := fun _ ds => decide (uptoBulkAll ds ≤ 1048576)
def OpenSpec.upto (s : _root_.Go.ChangeSpec) : _root_.Go.OpenSpec := { _root_.Go.OpenSpec.ofChange s with cond := some uptoSmall }

/-- 'lockgatelaw13.LayoutMakes', WHERE WHAT IT READS IS OF BULK AT MOST 1048576: true; the input reads as it did. -/
def layoutMakesUptoRow : OpenClaim := { program := "ytnddfekgbabmdaa", sum := "cf35ed1d98b5c8fe5fde029f1a81fc05aa067f83c5a910848a6d7e133074bfe5", func := "lockgate/lockgatelaw13.LayoutMakes", spec := "layoutMakes", unfollowed := true, recurses := true, apart := false, narrowed := true }
def LayoutMakesUptoSaid : Prop := layoutMakesUptoRow.holds Try.pinned (OpenSpec.upto layoutMakesSpec)

/-- 'lockgatelaw13.LayoutPlaces', WHERE WHAT IT READS IS OF BULK AT MOST 1048576: true; the input reads as it did. -/
def layoutPlacesUptoRow : OpenClaim := { program := "ytnddfekgbabmdaa", sum := "cf35ed1d98b5c8fe5fde029f1a81fc05aa067f83c5a910848a6d7e133074bfe5", func := "lockgate/lockgatelaw13.LayoutPlaces", spec := "layoutPlaces", inPlace := ["internal/abi.NoEscape", "internal/bytealg.MakeNoZero"], apart := false, narrowed := true }
def LayoutPlacesUptoSaid : Prop := layoutPlacesUptoRow.holds Try.pinned (OpenSpec.upto layoutPlacesSpec)

/-- 'lockgatelaw13.LayoutApart', WHERE WHAT IT READS IS OF BULK AT MOST 1048576: true; the input reads as it did. -/
def layoutApartUptoRow : OpenClaim := { program := "ytnddfekgbabmdaa", sum := "cf35ed1d98b5c8fe5fde029f1a81fc05aa067f83c5a910848a6d7e133074bfe5", func := "lockgate/lockgatelaw13.LayoutApart", spec := "layoutApart", apart := false, narrowed := true }
def LayoutApartUptoSaid : Prop := layoutApartUptoRow.holds Try.pinned (OpenSpec.upto layoutApartSpec)

/-- 'lockgatelaw13.LayoutFills', WHERE WHAT IT READS IS OF BULK AT MOST 1048576: true; the input reads as it did. -/
def layoutFillsUptoRow : OpenClaim := { program := "ytnddfekgbabmdaa", sum := "cf35ed1d98b5c8fe5fde029f1a81fc05aa067f83c5a910848a6d7e133074bfe5", func := "lockgate/lockgatelaw13.LayoutFills", spec := "layoutFills", apart := false, narrowed := true }
def LayoutFillsUptoSaid : Prop := layoutFillsUptoRow.holds Try.pinned (OpenSpec.upto layoutFillsSpec)

/-- 'lockgatelaw13.LayoutOne', WHERE WHAT IT READS IS OF BULK AT MOST 1048576: true; the input reads as it did. -/
def layoutOneUptoRow : OpenClaim := { program := "ytnddfekgbabmdaa", sum := "cf35ed1d98b5c8fe5fde029f1a81fc05aa067f83c5a910848a6d7e133074bfe5", func := "lockgate/lockgatelaw13.LayoutOne", spec := "layoutOne", unfollowed := true, recurses := true, apart := false, narrowed := true }
def LayoutOneUptoSaid : Prop := layoutOneUptoRow.holds Try.pinned (OpenSpec.upto layoutOneSpec)

end Rows
end Go.Proofs.Ytnddfekgbabmdaa
