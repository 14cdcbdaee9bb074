/-
  No cell of these rows narrows 'for every input' (looked for: loops, veiled, ifaces, maps, wideKeys, modest, calm, conditions, laid).
  DERIVED. THE GIVEN ROWS OF THIS SEAT. 6 by the template 'for every input the law returns true; each argument reads behind the call as it read before'; 0 by the template 'total and deterministic' (their statements: YtgjlcpafkmifoaaTotals.lean).
  GIVEN WITH THE SEED: the statements are not yours to turn. If you find one false, say at which input.
  Laid BY PROGRAM, IN A SANDBOX (cutbox-rows.mjs): the forced cells as the released guide's own fill.sh prints them over the translation 23f8e691fd054862… (all of the seat's roots in one cut). By AI agents, Wed Nov 11 2026. No macro, syntax, notation, axiom, sorry.
-/
import Derived.Test.YtgjlcpafkmifoaaChecked
import GoSem.Claim
import GoSem.ClaimJoined
import GoSem.ClaimMapViews
import Derived.JoinedTies
import Derived.KernelRfl
namespace Go.Proofs.Ytgjlcpafkmifoaa
/- THE CELL 'sum', in the pinned program and in every row, IS THE sha256 OF THE DUMP (.gsa) THAT YtgjlcpafkmifoaaProg.lean LOADS. Nothing in Lean hashes anything: it is a label: what it is worth is what the hold of that sum in a sandbox is worth. -/
noncomputable def Try.pinned : Pinned := { name := "ytgjlcpafkmifoaa", sum := "23f8e691fd05486202e6341d541e46da0e2b906098e30b8396abd74a38cbd5c3", checked := Try.checked }
namespace Rows
def none {H : Type} : Left H := { results := [], args := [] }

/-- 'lockgatelaw10.MasterNotes': WHATEVER THE INPUT: true; the input reads as it did. -/
def masterNotesSpec : ChangeSpec := { name := "masterNotes", fn := fun _ => fun
  | [d1, d2, d3] => { results := [.lit (.bool true)], args := [d1, d2, d3] }
  | _ => none }
def masterNotesRow : OpenClaim := { program := "ytgjlcpafkmifoaa", sum := "23f8e691fd05486202e6341d541e46da0e2b906098e30b8396abd74a38cbd5c3", func := "lockgate/lockgatelaw10.MasterNotes", spec := "masterNotes", inPlace := ["slices.overlaps[lockgate/api.Claim]"], unfollowed := true, recurses := true, apart := false }
def MasterNotesSaid : Prop := masterNotesRow.holds Try.pinned (OpenSpec.ofChange masterNotesSpec)

/-- ITS FALSE NEIGHBOUR: 'it returns false'. Refute it at one input. -/
def masterNotesWrong : ChangeSpec := { name := "masterNotes", fn := fun _ => fun
  | [d1, d2, d3] => { results := [.lit (.bool false)], args := [d1, d2, d3] }
  | _ => none }
def MasterNotesWrongFalsely : Prop := masterNotesRow.holds Try.pinned (OpenSpec.ofChange masterNotesWrong)

/-- 'lockgatelaw10.MasterSafe': WHATEVER THE INPUT: true; the input reads as it did. -/
def masterSafeSpec : ChangeSpec := { name := "masterSafe", fn := fun _ => fun
  | [d] => { results := [.lit (.bool true)], args := [d] }
  | _ => none }
def masterSafeRow : OpenClaim := { program := "ytgjlcpafkmifoaa", sum := "23f8e691fd05486202e6341d541e46da0e2b906098e30b8396abd74a38cbd5c3", func := "lockgate/lockgatelaw10.MasterSafe", spec := "masterSafe", inPlace := ["slices.overlaps[lockgate/api.Claim]"], unfollowed := true, recurses := true, apart := false }
def MasterSafeSaid : Prop := masterSafeRow.holds Try.pinned (OpenSpec.ofChange masterSafeSpec)

/-- ITS FALSE NEIGHBOUR: 'it returns false'. Refute it at one input. -/
def masterSafeWrong : ChangeSpec := { name := "masterSafe", fn := fun _ => fun
  | [d] => { results := [.lit (.bool false)], args := [d] }
  | _ => none }
def MasterSafeWrongFalsely : Prop := masterSafeRow.holds Try.pinned (OpenSpec.ofChange masterSafeWrong)

/-- 'lockgatelaw10.MasterEnds': WHATEVER THE INPUT: true; the input reads as it did. -/
def masterEndsSpec : ChangeSpec := { name := "masterEnds", fn := fun _ => fun
  | [d] => { results := [.lit (.bool true)], args := [d] }
  | _ => none }
def masterEndsRow : OpenClaim := { program := "ytgjlcpafkmifoaa", sum := "23f8e691fd05486202e6341d541e46da0e2b906098e30b8396abd74a38cbd5c3", func := "lockgate/lockgatelaw10.MasterEnds", spec := "masterEnds", inPlace := ["slices.overlaps[lockgate/api.Claim]"], unfollowed := true, recurses := true, apart := false }
def MasterEndsSaid : Prop := masterEndsRow.holds Try.pinned (OpenSpec.ofChange masterEndsSpec)

/-- ITS FALSE NEIGHBOUR: 'it returns false'. Refute it at one input. -/
def masterEndsWrong : ChangeSpec := { name := "masterEnds", fn := fun _ => fun
  | [d] => { results := [.lit (.bool false)], args := [d] }
  | _ => none }
def MasterEndsWrongFalsely : Prop := masterEndsRow.holds Try.pinned (OpenSpec.ofChange masterEndsWrong)

/-- 'lockgatelaw10.MasterNil': WHATEVER THE INPUT: true; the input reads as it did. -/
def masterNilSpec : ChangeSpec := { name := "masterNil", fn := fun _ => fun
  | [d] => { results := [.lit (.bool true)], args := [d] }
  | _ => none }
def masterNilRow : OpenClaim := { program := "ytgjlcpafkmifoaa", sum := "23f8e691fd05486202e6341d541e46da0e2b906098e30b8396abd74a38cbd5c3", func := "lockgate/lockgatelaw10.MasterNil", spec := "masterNil", inPlace := ["slices.overlaps[lockgate/api.Claim]"], unfollowed := true, recurses := true, apart := false }
def MasterNilSaid : Prop := masterNilRow.holds Try.pinned (OpenSpec.ofChange masterNilSpec)

/-- ITS FALSE NEIGHBOUR: 'it returns false'. Refute it at one input. -/
def masterNilWrong : ChangeSpec := { name := "masterNil", fn := fun _ => fun
  | [d] => { results := [.lit (.bool false)], args := [d] }
  | _ => none }
def MasterNilWrongFalsely : Prop := masterNilRow.holds Try.pinned (OpenSpec.ofChange masterNilWrong)

/-- 'lockgatelaw10.MasterElder': WHATEVER THE INPUT: true; the input reads as it did. -/
def masterElderSpec : ChangeSpec := { name := "masterElder", fn := fun _ => fun
  | [d] => { results := [.lit (.bool true)], args := [d] }
  | _ => none }
def masterElderRow : OpenClaim := { program := "ytgjlcpafkmifoaa", sum := "23f8e691fd05486202e6341d541e46da0e2b906098e30b8396abd74a38cbd5c3", func := "lockgate/lockgatelaw10.MasterElder", spec := "masterElder", inPlace := ["slices.overlaps[lockgate/api.Claim]"], unfollowed := true, recurses := true, apart := false }
def MasterElderSaid : Prop := masterElderRow.holds Try.pinned (OpenSpec.ofChange masterElderSpec)

/-- ITS FALSE NEIGHBOUR: 'it returns false'. Refute it at one input. -/
def masterElderWrong : ChangeSpec := { name := "masterElder", fn := fun _ => fun
  | [d] => { results := [.lit (.bool false)], args := [d] }
  | _ => none }
def MasterElderWrongFalsely : Prop := masterElderRow.holds Try.pinned (OpenSpec.ofChange masterElderWrong)

/-- 'lockgatelaw10.MasterCounts': WHATEVER THE INPUT: true; the input reads as it did. -/
def masterCountsSpec : ChangeSpec := { name := "masterCounts", fn := fun _ => fun
  | [d] => { results := [.lit (.bool true)], args := [d] }
  | _ => none }
def masterCountsRow : OpenClaim := { program := "ytgjlcpafkmifoaa", sum := "23f8e691fd05486202e6341d541e46da0e2b906098e30b8396abd74a38cbd5c3", func := "lockgate/lockgatelaw10.MasterCounts", spec := "masterCounts", inPlace := ["slices.overlaps[lockgate/api.Claim]"], unfollowed := true, recurses := true, apart := false }
def MasterCountsSaid : Prop := masterCountsRow.holds Try.pinned (OpenSpec.ofChange masterCountsSpec)

/-- ITS FALSE NEIGHBOUR: 'it returns false'. Refute it at one input. -/
def masterCountsWrong : ChangeSpec := { name := "masterCounts", fn := fun _ => fun
  | [d] => { results := [.lit (.bool false)], args := [d] }
  | _ => none }
def MasterCountsWrongFalsely : Prop := masterCountsRow.holds Try.pinned (OpenSpec.ofChange masterCountsWrong)

/- THE SECOND FORM. 'bulk': how many values and letters a reading holds, each counted each time it is reached (what is shared counts as often as it is met; a slice's spare places count too). A statement '..UptoSaid' is the law's where the arguments, and the package variables that the reading takes, are together of bulk at most 1048576: NARROWER than '..Said'. Prove '..Said' where nothing that the law and all that it calls make is longer than what came in: it says more and counts as full. Else prove '..UptoSaid'. A law counts once. -/
mutual
def uptoBulk {H : Type} : DataW H → Nat
  | .lit (.string bytes) => bytes.length + 1
  | .lit _ => 1
  | .nil => 1
  | .ptr d => uptoBulk d + 1
  | .slice elems spare => uptoBulkAll elems + uptoBulkAll spare + 1
  | .agg parts => uptoBulkAll parts + 1
  | .iface _ d => uptoBulk d + 1
  | .map entries => uptoBulkEntries entries + 1
  | .held _ => 1
def uptoBulkAll {H : Type} : List (DataW H) → Nat
  | [] => 0
  | d :: r => uptoBulk d + uptoBulkAll r
def uptoBulkEntries {H : Type} : List (Lit × DataW H) → Nat
  | [] => 0
  | x :: r => uptoBulkEntry x + uptoBulkEntries r
def uptoBulkEntry {H : Type} : Lit × DataW H → Nat
  | (.string bytes, d) => bytes.length + uptoBulk d + 1
  | (_, d) => uptoBulk d + 1
 end
def uptoSmall : (H : Type) → List (DataW H) → Bool := fun _ ds => decide (uptoBulkAll ds ≤ 1048576)
def OpenSpec.upto (s : _root_.Go.ChangeSpec) : _root_.Go.OpenSpec := { _root_.Go.OpenSpec.ofChange s with cond := some uptoSmall }

/-- 'lockgatelaw10.MasterNotes', WHERE WHAT IT READS IS OF BULK AT MOST 1048576: true; the input reads as it did. -/
def masterNotesUptoRow : OpenClaim := { program := "ytgjlcpafkmifoaa", sum := "23f8e691fd05486202e6341d541e46da0e2b906098e30b8396abd74a38cbd5c3", func := "lockgate/lockgatelaw10.MasterNotes", spec := "masterNotes", inPlace := ["slices.overlaps[lockgate/api.Claim]"], unfollowed := true, recurses := true, apart := false, narrowed := true }
def MasterNotesUptoSaid : Prop := masterNotesUptoRow.holds Try.pinned (OpenSpec.upto masterNotesSpec)

/-- 'lockgatelaw10.MasterSafe', WHERE WHAT IT READS IS OF BULK AT MOST 1048576: true; the input reads as it did. -/
def masterSafeUptoRow : OpenClaim := { program := "ytgjlcpafkmifoaa", sum := "23f8e691fd05486202e6341d541e46da0e2b906098e30b8396abd74a38cbd5c3", func := "lockgate/lockgatelaw10.MasterSafe", spec := "masterSafe", inPlace := ["slices.overlaps[lockgate/api.Claim]"], unfollowed := true, recurses := true, apart := false, narrowed := true }
def MasterSafeUptoSaid : Prop := masterSafeUptoRow.holds Try.pinned (OpenSpec.upto masterSafeSpec)

/-- 'lockgatelaw10.MasterEnds', WHERE WHAT IT READS IS OF BULK AT MOST 1048576: true; the input reads as it did. -/
def masterEndsUptoRow : OpenClaim := { program := "ytgjlcpafkmifoaa", sum := "23f8e691fd05486202e6341d541e46da0e2b906098e30b8396abd74a38cbd5c3", func := "lockgate/lockgatelaw10.MasterEnds", spec := "masterEnds", inPlace := ["slices.overlaps[lockgate/api.Claim]"], unfollowed := true, recurses := true, apart := false, narrowed := true }
def MasterEndsUptoSaid : Prop := masterEndsUptoRow.holds Try.pinned (OpenSpec.upto masterEndsSpec)

/-- 'lockgatelaw10.MasterNil', WHERE WHAT IT READS IS OF BULK AT MOST 1048576: true; the input reads as it did. -/
def masterNilUptoRow : OpenClaim := { program := "ytgjlcpafkmifoaa", sum := "23f8e691fd05486202e6341d541e46da0e2b906098e30b8396abd74a38cbd5c3", func := "lockgate/lockgatelaw10.MasterNil", spec := "masterNil", inPlace := ["slices.overlaps[lockgate/api.Claim]"], unfollowed := true, recurses := true, apart := false, narrowed := true }
def MasterNilUptoSaid : Prop := masterNilUptoRow.holds Try.pinned (OpenSpec.upto masterNilSpec)

/-- 'lockgatelaw10.MasterElder', WHERE WHAT IT READS IS OF BULK AT MOST 1048576: true; the input reads as it did. -/
def masterElderUptoRow : OpenClaim := { program := "ytgjlcpafkmifoaa", sum := "23f8e691fd05486202e6341d541e46da0e2b906098e30b8396abd74a38cbd5c3", func := "lockgate/lockgatelaw10.MasterElder", spec := "masterElder", inPlace := ["slices.overlaps[lockgate/api.Claim]"], unfollowed := true, recurses := true, apart := false, narrowed := true }
def MasterElderUptoSaid : Prop := masterElderUptoRow.holds Try.pinned (OpenSpec.upto masterElderSpec)

/-- 'lockgatelaw10.MasterCounts', WHERE WHAT IT READS IS OF BULK AT MOST 1048576: true; the input reads as it did. -/
def masterCountsUptoRow : OpenClaim := { program := "ytgjlcpafkmifoaa", sum := "23f8e691fd05486202e6341d541e46da0e2b906098e30b8396abd74a38cbd5c3", func := "lockgate/lockgatelaw10.MasterCounts", spec := "masterCounts", inPlace := ["slices.overlaps[lockgate/api.Claim]"], unfollowed := true, recurses := true, apart := false, narrowed := true }
def MasterCountsUptoSaid : Prop := masterCountsUptoRow.holds Try.pinned (OpenSpec.upto masterCountsSpec)

end Rows
end Go.Proofs.Ytgjlcpafkmifoaa
