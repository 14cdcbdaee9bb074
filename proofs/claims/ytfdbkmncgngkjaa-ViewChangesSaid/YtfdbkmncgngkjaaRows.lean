/-
  No cell of these rows narrows 'for every input' (looked for: loops, veiled, ifaces, maps, wideKeys, modest, calm, conditions, laid).
  DERIVED. THE GIVEN ROWS OF THIS SEAT. 8 by the template 'for every input the law returns true; each argument reads behind the call as it read before'; 0 by the template 'total and deterministic' (their statements: YtfdbkmncgngkjaaTotals.lean).
  GIVEN WITH THE SEED: the statements are not yours to turn. If you find one false, say at which input.
  Laid BY PROGRAM, IN A SANDBOX (cutbox-rows.mjs): the forced cells as the released guide's own fill.sh prints them over the translation 08607389625cec87… (all of the seat's roots in one cut). By AI agents, Wed Nov 11 2026. No macro, syntax, notation, axiom, sorry.
-/
import Derived.Test.YtfdbkmncgngkjaaChecked
import GoSem.Claim
import GoSem.ClaimJoined
import GoSem.ClaimMapViews
import Derived.JoinedTies
import Derived.KernelRfl
namespace Go.Proofs.Ytfdbkmncgngkjaa
/- THE CELL 'sum', in the pinned program and in every row, IS THE sha256 OF THE DUMP (.gsa) THAT YtfdbkmncgngkjaaProg.lean LOADS. Nothing in Lean hashes anything: it is a label: what it is worth is what the hold of that sum in a sandbox is worth. -/
noncomputable def Try.pinned : Pinned := { name := "ytfdbkmncgngkjaa", sum := "08607389625cec87024dea229289252f60cf81481e37ceff5f45aec5aac77953", checked := Try.checked }
namespace Rows
def none {H : Type} : Left H := { results := [], args := [] }

/-- 'lockgatelaw06.ViewBytes': WHATEVER THE INPUT: true; the input reads as it did. -/
def viewBytesSpec : ChangeSpec := { name := "viewBytes", fn := fun _ => fun
  | [d1, d2] => { results := [.lit (.bool true)], args := [d1, d2] }
  | _ => none }
def viewBytesRow : OpenClaim := { program := "ytfdbkmncgngkjaa", sum := "08607389625cec87024dea229289252f60cf81481e37ceff5f45aec5aac77953", func := "lockgate/lockgatelaw06.ViewBytes", spec := "viewBytes", unfollowed := true, recurses := true, apart := false }
def ViewBytesSaid : Prop := viewBytesRow.holds Try.pinned (OpenSpec.ofChange viewBytesSpec)

/-- ITS FALSE NEIGHBOUR: 'it returns false'. Refute it at one input. -/
def viewBytesWrong : ChangeSpec := { name := "viewBytes", fn := fun _ => fun
  | [d1, d2] => { results := [.lit (.bool false)], args := [d1, d2] }
  | _ => none }
def ViewBytesWrongFalsely : Prop := viewBytesRow.holds Try.pinned (OpenSpec.ofChange viewBytesWrong)

/-- 'lockgatelaw06.ViewReads': WHATEVER THE INPUT: true; the input reads as it did. -/
def viewReadsSpec : ChangeSpec := { name := "viewReads", fn := fun _ => fun
  | [d] => { results := [.lit (.bool true)], args := [d] }
  | _ => none }
def viewReadsRow : OpenClaim := { program := "ytfdbkmncgngkjaa", sum := "08607389625cec87024dea229289252f60cf81481e37ceff5f45aec5aac77953", func := "lockgate/lockgatelaw06.ViewReads", spec := "viewReads", unfollowed := true, recurses := true, apart := false }
def ViewReadsSaid : Prop := viewReadsRow.holds Try.pinned (OpenSpec.ofChange viewReadsSpec)

/-- ITS FALSE NEIGHBOUR: 'it returns false'. Refute it at one input. -/
def viewReadsWrong : ChangeSpec := { name := "viewReads", fn := fun _ => fun
  | [d] => { results := [.lit (.bool false)], args := [d] }
  | _ => none }
def ViewReadsWrongFalsely : Prop := viewReadsRow.holds Try.pinned (OpenSpec.ofChange viewReadsWrong)

/-- 'lockgatelaw06.ViewChanges': WHATEVER THE INPUT: true; the input reads as it did. -/
def viewChangesSpec : ChangeSpec := { name := "viewChanges", fn := fun _ => fun
  | [d1, d2] => { results := [.lit (.bool true)], args := [d1, d2] }
  | _ => none }
def viewChangesRow : OpenClaim := { program := "ytfdbkmncgngkjaa", sum := "08607389625cec87024dea229289252f60cf81481e37ceff5f45aec5aac77953", func := "lockgate/lockgatelaw06.ViewChanges", spec := "viewChanges", unfollowed := true, recurses := true, apart := false }
def ViewChangesSaid : Prop := viewChangesRow.holds Try.pinned (OpenSpec.ofChange viewChangesSpec)

/-- ITS FALSE NEIGHBOUR: 'it returns false'. Refute it at one input. -/
def viewChangesWrong : ChangeSpec := { name := "viewChanges", fn := fun _ => fun
  | [d1, d2] => { results := [.lit (.bool false)], args := [d1, d2] }
  | _ => none }
def ViewChangesWrongFalsely : Prop := viewChangesRow.holds Try.pinned (OpenSpec.ofChange viewChangesWrong)

/-- 'lockgatelaw06.ViewKeeps': WHATEVER THE INPUT: true; the input reads as it did. -/
def viewKeepsSpec : ChangeSpec := { name := "viewKeeps", fn := fun _ => fun
  | [d1, d2] => { results := [.lit (.bool true)], args := [d1, d2] }
  | _ => none }
def viewKeepsRow : OpenClaim := { program := "ytfdbkmncgngkjaa", sum := "08607389625cec87024dea229289252f60cf81481e37ceff5f45aec5aac77953", func := "lockgate/lockgatelaw06.ViewKeeps", spec := "viewKeeps", unfollowed := true, recurses := true, apart := false }
def ViewKeepsSaid : Prop := viewKeepsRow.holds Try.pinned (OpenSpec.ofChange viewKeepsSpec)

/-- ITS FALSE NEIGHBOUR: 'it returns false'. Refute it at one input. -/
def viewKeepsWrong : ChangeSpec := { name := "viewKeeps", fn := fun _ => fun
  | [d1, d2] => { results := [.lit (.bool false)], args := [d1, d2] }
  | _ => none }
def ViewKeepsWrongFalsely : Prop := viewKeepsRow.holds Try.pinned (OpenSpec.ofChange viewKeepsWrong)

/-- 'lockgatelaw06.ViewMeets': WHATEVER THE INPUT: true; the input reads as it did. -/
def viewMeetsSpec : ChangeSpec := { name := "viewMeets", fn := fun _ => fun
  | [d1, d2, d3] => { results := [.lit (.bool true)], args := [d1, d2, d3] }
  | _ => none }
def viewMeetsRow : OpenClaim := { program := "ytfdbkmncgngkjaa", sum := "08607389625cec87024dea229289252f60cf81481e37ceff5f45aec5aac77953", func := "lockgate/lockgatelaw06.ViewMeets", spec := "viewMeets", unfollowed := true, recurses := true, apart := false }
def ViewMeetsSaid : Prop := viewMeetsRow.holds Try.pinned (OpenSpec.ofChange viewMeetsSpec)

/-- ITS FALSE NEIGHBOUR: 'it returns false'. Refute it at one input. -/
def viewMeetsWrong : ChangeSpec := { name := "viewMeets", fn := fun _ => fun
  | [d1, d2, d3] => { results := [.lit (.bool false)], args := [d1, d2, d3] }
  | _ => none }
def ViewMeetsWrongFalsely : Prop := viewMeetsRow.holds Try.pinned (OpenSpec.ofChange viewMeetsWrong)

/-- 'lockgatelaw06.ViewKeys': WHATEVER THE INPUT: true; the input reads as it did. -/
def viewKeysSpec : ChangeSpec := { name := "viewKeys", fn := fun _ => fun
  | [d1, d2] => { results := [.lit (.bool true)], args := [d1, d2] }
  | _ => none }
def viewKeysRow : OpenClaim := { program := "ytfdbkmncgngkjaa", sum := "08607389625cec87024dea229289252f60cf81481e37ceff5f45aec5aac77953", func := "lockgate/lockgatelaw06.ViewKeys", spec := "viewKeys", unfollowed := true, recurses := true, apart := false }
def ViewKeysSaid : Prop := viewKeysRow.holds Try.pinned (OpenSpec.ofChange viewKeysSpec)

/-- ITS FALSE NEIGHBOUR: 'it returns false'. Refute it at one input. -/
def viewKeysWrong : ChangeSpec := { name := "viewKeys", fn := fun _ => fun
  | [d1, d2] => { results := [.lit (.bool false)], args := [d1, d2] }
  | _ => none }
def ViewKeysWrongFalsely : Prop := viewKeysRow.holds Try.pinned (OpenSpec.ofChange viewKeysWrong)

/-- 'lockgatelaw06.ViewOpens': WHATEVER THE INPUT: true; the input reads as it did. -/
def viewOpensSpec : ChangeSpec := { name := "viewOpens", fn := fun _ => fun
  | [d1, d2] => { results := [.lit (.bool true)], args := [d1, d2] }
  | _ => none }
def viewOpensRow : OpenClaim := { program := "ytfdbkmncgngkjaa", sum := "08607389625cec87024dea229289252f60cf81481e37ceff5f45aec5aac77953", func := "lockgate/lockgatelaw06.ViewOpens", spec := "viewOpens", unfollowed := true, recurses := true, apart := false }
def ViewOpensSaid : Prop := viewOpensRow.holds Try.pinned (OpenSpec.ofChange viewOpensSpec)

/-- ITS FALSE NEIGHBOUR: 'it returns false'. Refute it at one input. -/
def viewOpensWrong : ChangeSpec := { name := "viewOpens", fn := fun _ => fun
  | [d1, d2] => { results := [.lit (.bool false)], args := [d1, d2] }
  | _ => none }
def ViewOpensWrongFalsely : Prop := viewOpensRow.holds Try.pinned (OpenSpec.ofChange viewOpensWrong)

/-- 'lockgatelaw06.ViewFull': WHATEVER THE INPUT: true; the input reads as it did. -/
def viewFullSpec : ChangeSpec := { name := "viewFull", fn := fun _ => fun
  | [d1, d2] => { results := [.lit (.bool true)], args := [d1, d2] }
  | _ => none }
def viewFullRow : OpenClaim := { program := "ytfdbkmncgngkjaa", sum := "08607389625cec87024dea229289252f60cf81481e37ceff5f45aec5aac77953", func := "lockgate/lockgatelaw06.ViewFull", spec := "viewFull", unfollowed := true, recurses := true, apart := false }
def ViewFullSaid : Prop := viewFullRow.holds Try.pinned (OpenSpec.ofChange viewFullSpec)

/-- ITS FALSE NEIGHBOUR: 'it returns false'. Refute it at one input. -/
def viewFullWrong : ChangeSpec := { name := "viewFull", fn := fun _ => fun
  | [d1, d2] => { results := [.lit (.bool false)], args := [d1, d2] }
  | _ => none }
def ViewFullWrongFalsely : Prop := viewFullRow.holds Try.pinned (OpenSpec.ofChange viewFullWrong)

/- THE SECOND FORM. 'bulk': how many values and letters a reading holds, each counted each time it is reached (what is shared counts as often as it is met; a slice's spare places count too). A statement '..UptoSaid' is the law's where the arguments, and the package variables that the reading takes, are together of bulk at most 1048576: NARROWER than '..Said'. Prove '..Said' where nothing that the law and all that it calls make is longer than what came in: it says more and counts as full. Else prove '..UptoSaid'. A law counts once. -/
mutual
def uptoBulk {H : Type} : DataW H → Nat
  | .lit (.string bytes) => bytes.length + 1
  | .lit _ => 1
  | .nil => 1
  | .ptr d => uptoBulk d + 1
  | .slice elems spare => uptoBulkAll elems + uptoBulkAll spare + 1
  | .agg parts => uptoBulkAll parts + 1
  | .iface _ d => uptoBulk d + 1
  | .map entries => uptoBulkEntries entries + 1
  | .held _ => 1
def uptoBulkAll {H : Type} : List (DataW H) → Nat
  | [] => 0
  | d :: r => uptoBulk d + uptoBulkAll r
def uptoBulkEntries {H : Type} : List (Lit × DataW H) → Nat
  | [] => 0
  | x :: r => uptoBulkEntry x + uptoBulkEntries r
def uptoBulkEntry {H : Type} : Lit × DataW H → Nat
  | (.string bytes, d) => bytes.length + uptoBulk d + 1
  | (_, d) => uptoBulk d + 1
 end
def uptoSmall : (H : Type) → List (DataW H) → Bool := fun _ ds => decide (uptoBulkAll ds ≤ 1048576)
def OpenSpec.upto (s : _root_.Go.ChangeSpec) : _root_.Go.OpenSpec := { _root_.Go.OpenSpec.ofChange s with cond := some uptoSmall }

/-- 'lockgatelaw06.ViewBytes', WHERE WHAT IT READS IS OF BULK AT MOST 1048576: true; the input reads as it did. -/
def viewBytesUptoRow : OpenClaim := { program := "ytfdbkmncgngkjaa", sum := "08607389625cec87024dea229289252f60cf81481e37ceff5f45aec5aac77953", func := "lockgate/lockgatelaw06.ViewBytes", spec := "viewBytes", unfollowed := true, recurses := true, apart := false, narrowed := true }
def ViewBytesUptoSaid : Prop := viewBytesUptoRow.holds Try.pinned (OpenSpec.upto viewBytesSpec)

/-- 'lockgatelaw06.ViewReads', WHERE WHAT IT READS IS OF BULK AT MOST 1048576: true; the input reads as it did. -/
def viewReadsUptoRow : OpenClaim := { program := "ytfdbkmncgngkjaa", sum := "08607389625cec87024dea229289252f60cf81481e37ceff5f45aec5aac77953", func := "lockgate/lockgatelaw06.ViewReads", spec := "viewReads", unfollowed := true, recurses := true, apart := false, narrowed := true }
def ViewReadsUptoSaid : Prop := viewReadsUptoRow.holds Try.pinned (OpenSpec.upto viewReadsSpec)

/-- 'lockgatelaw06.ViewChanges', WHERE WHAT IT READS IS OF BULK AT MOST 1048576: true; the input reads as it did. -/
def viewChangesUptoRow : OpenClaim := { program := "ytfdbkmncgngkjaa", sum := "08607389625cec87024dea229289252f60cf81481e37ceff5f45aec5aac77953", func := "lockgate/lockgatelaw06.ViewChanges", spec := "viewChanges", unfollowed := true, recurses := true, apart := false, narrowed := true }
def ViewChangesUptoSaid : Prop := viewChangesUptoRow.holds Try.pinned (OpenSpec.upto viewChangesSpec)

/-- 'lockgatelaw06.ViewKeeps', WHERE WHAT IT READS IS OF BULK AT MOST 1048576: true; the input reads as it did. -/
def viewKeepsUptoRow : OpenClaim := { program := "ytfdbkmncgngkjaa", sum := "08607389625cec87024dea229289252f60cf81481e37ceff5f45aec5aac77953", func := "lockgate/lockgatelaw06.ViewKeeps", spec := "viewKeeps", unfollowed := true, recurses := true, apart := false, narrowed := true }
def ViewKeepsUptoSaid : Prop := viewKeepsUptoRow.holds Try.pinned (OpenSpec.upto viewKeepsSpec)

/-- 'lockgatelaw06.ViewMeets', WHERE WHAT IT READS IS OF BULK AT MOST 1048576: true; the input reads as it did. -/
def viewMeetsUptoRow : OpenClaim := { program := "ytfdbkmncgngkjaa", sum := "08607389625cec87024dea229289252f60cf81481e37ceff5f45aec5aac77953", func := "lockgate/lockgatelaw06.ViewMeets", spec := "viewMeets", unfollowed := true, recurses := true, apart := false, narrowed := true }
def ViewMeetsUptoSaid : Prop := viewMeetsUptoRow.holds Try.pinned (OpenSpec.upto viewMeetsSpec)

/-- 'lockgatelaw06.ViewKeys', WHERE WHAT IT READS IS OF BULK AT MOST 1048576: true; the input reads as it did. -/
def viewKeysUptoRow : OpenClaim := { program := "ytfdbkmncgngkjaa", sum := "08607389625cec87024dea229289252f60cf81481e37ceff5f45aec5aac77953", func := "lockgate/lockgatelaw06.ViewKeys", spec := "viewKeys", unfollowed := true, recurses := true, apart := false, narrowed := true }
def ViewKeysUptoSaid : Prop := viewKeysUptoRow.holds Try.pinned (OpenSpec.upto viewKeysSpec)

/-- 'lockgatelaw06.ViewOpens', WHERE WHAT IT READS IS OF BULK AT MOST 1048576: true; the input reads as it did. -/
def viewOpensUptoRow : OpenClaim := { program := "ytfdbkmncgngkjaa", sum := "08607389625cec87024dea229289252f60cf81481e37ceff5f45aec5aac77953", func := "lockgate/lockgatelaw06.ViewOpens", spec := "viewOpens", unfollowed := true, recurses := true, apart := false, narrowed := true }
def ViewOpensUptoSaid : Prop := viewOpensUptoRow.holds Try.pinned (OpenSpec.upto viewOpensSpec)

/-- 'lockgatelaw06.ViewFull', WHERE WHAT IT READS IS OF BULK AT MOST 1048576: true; the input reads as it did. -/
def viewFullUptoRow : OpenClaim := { program := "ytfdbkmncgngkjaa", sum := "08607389625cec87024dea229289252f60cf81481e37ceff5f45aec5aac77953", func := "lockgate/lockgatelaw06.ViewFull", spec := "viewFull", unfollowed := true, recurses := true, apart := false, narrowed := true }
def ViewFullUptoSaid : Prop := viewFullUptoRow.holds Try.pinned (OpenSpec.upto viewFullSpec)

end Rows
end Go.Proofs.Ytfdbkmncgngkjaa
