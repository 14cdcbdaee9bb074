/-
  No cell of these rows narrows 'for every input' (looked for: loops, veiled, ifaces, maps, wideKeys, modest, calm, conditions, laid).
  DERIVED. THE GIVEN ROWS OF THIS SEAT. 3 by the template 'for every input the law returns true; each argument reads behind the call as it read before'; 0 by the template 'total and deterministic' (their statements: YthpmodohfjjjcaaTotals.lean).
  GIVEN WITH THE SEED: the statements are not yours to turn. If you find one false, say at which input.
  Laid BY PROGRAM, IN A SANDBOX (cutbox-rows.mjs): the forced cells as the released guide's own fill.sh prints them over the translation a4a8ebc6d37252aa… (all of the seat's roots in one cut). By AI agents, Wed Nov 11 2026. No macro, syntax, notation, axiom, sorry.
-/
import Derived.Test.YthpmodohfjjjcaaChecked
import GoSem.Claim
import GoSem.ClaimJoined
import GoSem.ClaimMapViews
import Derived.JoinedTies
import Derived.KernelRfl
namespace Go.Proofs.Ythpmodohfjjjcaa
/- THE CELL 'sum', in the pinned program and in every row, IS THE sha256 OF THE DUMP (.gsa) THAT YthpmodohfjjjcaaProg.lean LOADS. Nothing in Lean hashes anything: it is a label: what it is worth is what the hold of that sum in a sandbox is worth. -/
noncomputable def Try.pinned : Pinned := { name := "ythpmodohfjjjcaa", sum := "a4a8ebc6d37252aa02cea3d146b74d00b9e0042790003e4c9656723880fbf2f4", checked := Try.checked }
namespace Rows
def none {H : Type} : Left H := { results := [], args := [] }

/-- 'lockgatelaw10.MasterNotes': WHATEVER THE INPUT: true; the input reads as it did. -/
def masterNotesSpec : ChangeSpec := { name := "masterNotes", fn := fun _ => fun
  | [d1, d2, d3] => { results := [.lit (.bool true)], args := [d1, d2, d3] }
  | _ => none }
def masterNotesRow : OpenClaim := { program := "ythpmodohfjjjcaa", sum := "a4a8ebc6d37252aa02cea3d146b74d00b9e0042790003e4c9656723880fbf2f4", func := "lockgate/lockgatelaw10.MasterNotes", spec := "masterNotes", inPlace := ["slices.overlaps[lockgate/api.Claim]"], unfollowed := true, recurses := true, apart := false }
def MasterNotesSaid : Prop := masterNotesRow.holds Try.pinned (OpenSpec.ofChange masterNotesSpec)

/-- ITS FALSE NEIGHBOUR: 'it returns false'. Refute it at one input. -/
def masterNotesWrong : ChangeSpec := { name := "masterNotes", fn := fun _ => fun
  | [d1, d2, d3] => { results := [.lit (.bool false)], args := [d1, d2, d3] }
  | _ => none }
def MasterNotesWrongFalsely : Prop := masterNotesRow.holds Try.pinned (OpenSpec.ofChange masterNotesWrong)

/-- 'lockgatelaw10.MasterSafe': WHATEVER THE INPUT: true; the input reads as it did. -/
def masterSafeSpec : ChangeSpec := { name := "masterSafe", fn := fun _ => fun
  | [d] => { results := [.lit (.bool true)], args := [d] }
  | _ => none }
def masterSafeRow : OpenClaim := { program := "ythpmodohfjjjcaa", sum := "a4a8ebc6d37252aa02cea3d146b74d00b9e0042790003e4c9656723880fbf2f4", func := "lockgate/lockgatelaw10.MasterSafe", spec := "masterSafe", inPlace := ["slices.overlaps[lockgate/api.Claim]"], unfollowed := true, recurses := true, apart := false }
def MasterSafeSaid : Prop := masterSafeRow.holds Try.pinned (OpenSpec.ofChange masterSafeSpec)

/-- ITS FALSE NEIGHBOUR: 'it returns false'. Refute it at one input. -/
def masterSafeWrong : ChangeSpec := { name := "masterSafe", fn := fun _ => fun
  | [d] => { results := [.lit (.bool false)], args := [d] }
  | _ => none }
def MasterSafeWrongFalsely : Prop := masterSafeRow.holds Try.pinned (OpenSpec.ofChange masterSafeWrong)

/-- 'lockgatelaw10.MasterEnds': WHATEVER THE INPUT: true; the input reads as it did. -/
def masterEndsSpec : ChangeSpec := { name := "masterEnds", fn := fun _ => fun
  | [d] => { results := [.lit (.bool true)], args := [d] }
  | _ => none }
def masterEndsRow : OpenClaim := { program := "ythpmodohfjjjcaa", sum := "a4a8ebc6d37252aa02cea3d146b74d00b9e0042790003e4c9656723880fbf2f4", func := "lockgate/lockgatelaw10.MasterEnds", spec := "masterEnds", inPlace := ["slices.overlaps[lockgate/api.Claim]"], unfollowed := true, recurses := true, apart := false }
def MasterEndsSaid : Prop := masterEndsRow.holds Try.pinned (OpenSpec.ofChange masterEndsSpec)

/-- ITS FALSE NEIGHBOUR: 'it returns false'. Refute it at one input. -/
def masterEndsWrong : ChangeSpec := { name := "masterEnds", fn := fun _ => fun
  | [d] => { results := [.lit (.bool false)], args := [d] }
  | _ => none }
def MasterEndsWrongFalsely : Prop := masterEndsRow.holds Try.pinned (OpenSpec.ofChange masterEndsWrong)

/- THE SECOND FORM. 'bulk': how many values and letters a reading holds, each counted each time it is reached (what is shared counts as often as it is met; a slice's spare places count too). A statement '..UptoSaid' is the law's where the arguments, and the package variables that the reading takes, are together of bulk at most 1048576: NARROWER than '..Said'. Prove '..Said' where nothing that the law and all that it calls make is longer than what came in: it says more and counts as full. Else prove '..UptoSaid'. A law counts once. -/
mutual
def uptoBulk {H : Type} : DataW H → Nat
  | .lit (.string bytes) => bytes.length + 1
  | .lit _ => 1
  | .nil => 1
  | .ptr d => uptoBulk d + 1
  | .slice elems spare => uptoBulkAll elems + uptoBulkAll spare + 1
  | .agg parts => uptoBulkAll parts + 1
  | .iface _ d => uptoBulk d + 1
  | .map entries => uptoBulkEntries entries + 1
  | .held _ => 1
def uptoBulkAll {H : Type} : List (DataW H) → Nat
  | [] => 0
  | d :: r => uptoBulk d + uptoBulkAll r
def uptoBulkEntries {H : Type} : List (Lit × DataW H) → Nat
  | [] => 0
  | x :: r => uptoBulkEntry x + uptoBulkEntries r
def uptoBulkEntry {H : Type} : Lit × DataW H → Nat
  | (.string bytes, d) => bytes.length + uptoBulk d + 1
  | (_, d) => uptoBulk d + 1
 end
def uptoSmall : (H : Type) → List (DataW H) → Bool := fun _ ds => decide (uptoBulkAll ds ≤ 1048576)
def OpenSpec.upto (s : _root_.Go.ChangeSpec) : _root_.Go.OpenSpec := { _root_.Go.OpenSpec.ofChange s with cond := some uptoSmall }

/-- 'lockgatelaw10.MasterNotes', WHERE WHAT IT READS IS OF BULK AT MOST 1048576: true; the input reads as it did. -/
def masterNotesUptoRow : OpenClaim := { program := "ythpmodohfjjjcaa", sum := "a4a8ebc6d37252aa02cea3d146b74d00b9e0042790003e4c9656723880fbf2f4", func := "lockgate/lockgatelaw10.MasterNotes", spec := "masterNotes", inPlace := ["slices.overlaps[lockgate/api.Claim]"], unfollowed := true, recurses := true, apart := false, narrowed := true }
def MasterNotesUptoSaid : Prop := masterNotesUptoRow.holds Try.pinned (OpenSpec.upto masterNotesSpec)

/-- 'lockgatelaw10.MasterSafe', WHERE WHAT IT READS IS OF BULK AT MOST 1048576: true; the input reads as it did. -/
def masterSafeUptoRow : OpenClaim := { program := "ythpmodohfjjjcaa", sum := "a4a8ebc6d37252aa02cea3d146b74d00b9e0042790003e4c9656723880fbf2f4", func := "lockgate/lockgatelaw10.MasterSafe", spec := "masterSafe", inPlace := ["slices.overlaps[lockgate/api.Claim]"], unfollowed := true, recurses := true, apart := false, narrowed := true }
def MasterSafeUptoSaid : Prop := masterSafeUptoRow.holds Try.pinned (OpenSpec.upto masterSafeSpec)

/-- 'lockgatelaw10.MasterEnds', WHERE WHAT IT READS IS OF BULK AT MOST 1048576: true; the input reads as it did. -/
def masterEndsUptoRow : OpenClaim := { program := "ythpmodohfjjjcaa", sum := "a4a8ebc6d37252aa02cea3d146b74d00b9e0042790003e4c9656723880fbf2f4", func := "lockgate/lockgatelaw10.MasterEnds", spec := "masterEnds", inPlace := ["slices.overlaps[lockgate/api.Claim]"], unfollowed := true, recurses := true, apart := false, narrowed := true }
def MasterEndsUptoSaid : Prop := masterEndsUptoRow.holds Try.pinned (OpenSpec.upto masterEndsSpec)

end Rows
end Go.Proofs.Ythpmodohfjjjcaa
