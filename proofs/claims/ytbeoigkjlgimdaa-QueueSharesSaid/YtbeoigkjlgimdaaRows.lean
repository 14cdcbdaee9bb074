/-
  No cell of these rows narrows 'for every input' (looked for: loops, veiled, ifaces, maps, wideKeys, modest, calm, conditions, laid).
  DERIVED. THE GIVEN ROWS OF THIS SEAT. 4 by the template 'for every input the law returns true; each argument reads behind the call as it read before'; 0 by the template 'total and deterministic' (their statements: YtbeoigkjlgimdaaTotals.lean).
  GIVEN WITH THE SEED: the statements are not yours to turn. If you find one false, say at which input.
  Laid BY PROGRAM, IN A SANDBOX (cutbox-rows.mjs): the forced cells as the released guide's own fill.sh prints them over the translation d230056d99c3923a… (all of the seat's roots in one cut). By AI agents, Wed Nov 11 2026. No macro, syntax, notation, axiom, sorry.
-/
import Derived.Test.YtbeoigkjlgimdaaChecked
import GoSem.Claim
import GoSem.ClaimJoined
import GoSem.ClaimMapViews
import Derived.JoinedTies
import Derived.KernelRfl
namespace Go.Proofs.Ytbeoigkjlgimdaa
/- THE CELL 'sum', in the pinned program and in every row, IS THE sha256 OF THE DUMP (.gsa) THAT YtbeoigkjlgimdaaProg.lean LOADS. Nothing in Lean hashes anything: it is a label: what it is worth is what the hold of that sum in a sandbox is worth. -/
noncomputable def Try.pinned : Pinned := { name := "ytbeoigkjlgimdaa", sum := "d230056d99c3923aa3d661fe14dfe0a82c34474fbd2eba20fce5737274d10b96", checked := Try.checked }
namespace Rows
def none {H : Type} : Left H := { results := [], args := [] }

/-- 'lockgatelaw09.QueueSafe': WHATEVER THE INPUT: true; the input reads as it did. -/
def queueSafeSpec : ChangeSpec := { name := "queueSafe", fn := fun _ => fun
  | [d] => { results := [.lit (.bool true)], args := [d] }
  | _ => none }
def queueSafeRow : OpenClaim := { program := "ytbeoigkjlgimdaa", sum := "d230056d99c3923aa3d661fe14dfe0a82c34474fbd2eba20fce5737274d10b96", func := "lockgate/lockgatelaw09.QueueSafe", spec := "queueSafe", inPlace := ["slices.overlaps[lockgate/api.Claim]"], unfollowed := true, recurses := true, apart := false }
def QueueSafeSaid : Prop := queueSafeRow.holds Try.pinned (OpenSpec.ofChange queueSafeSpec)

/-- ITS FALSE NEIGHBOUR: 'it returns false'. Refute it at one input. -/
def queueSafeWrong : ChangeSpec := { name := "queueSafe", fn := fun _ => fun
  | [d] => { results := [.lit (.bool false)], args := [d] }
  | _ => none }
def QueueSafeWrongFalsely : Prop := queueSafeRow.holds Try.pinned (OpenSpec.ofChange queueSafeWrong)

/-- 'lockgatelaw09.QueueEnds': WHATEVER THE INPUT: true; the input reads as it did. -/
def queueEndsSpec : ChangeSpec := { name := "queueEnds", fn := fun _ => fun
  | [d] => { results := [.lit (.bool true)], args := [d] }
  | _ => none }
def queueEndsRow : OpenClaim := { program := "ytbeoigkjlgimdaa", sum := "d230056d99c3923aa3d661fe14dfe0a82c34474fbd2eba20fce5737274d10b96", func := "lockgate/lockgatelaw09.QueueEnds", spec := "queueEnds", inPlace := ["slices.overlaps[lockgate/api.Claim]"], unfollowed := true, recurses := true, apart := false }
def QueueEndsSaid : Prop := queueEndsRow.holds Try.pinned (OpenSpec.ofChange queueEndsSpec)

/-- ITS FALSE NEIGHBOUR: 'it returns false'. Refute it at one input. -/
def queueEndsWrong : ChangeSpec := { name := "queueEnds", fn := fun _ => fun
  | [d] => { results := [.lit (.bool false)], args := [d] }
  | _ => none }
def QueueEndsWrongFalsely : Prop := queueEndsRow.holds Try.pinned (OpenSpec.ofChange queueEndsWrong)

/-- 'lockgatelaw09.QueueShares': WHATEVER THE INPUT: true; the input reads as it did. -/
def queueSharesSpec : ChangeSpec := { name := "queueShares", fn := fun _ => fun
  | [d1, d2] => { results := [.lit (.bool true)], args := [d1, d2] }
  | _ => none }
def queueSharesRow : OpenClaim := { program := "ytbeoigkjlgimdaa", sum := "d230056d99c3923aa3d661fe14dfe0a82c34474fbd2eba20fce5737274d10b96", func := "lockgate/lockgatelaw09.QueueShares", spec := "queueShares", inPlace := ["slices.overlaps[lockgate/api.Claim]"], unfollowed := true, recurses := true, apart := false }
def QueueSharesSaid : Prop := queueSharesRow.holds Try.pinned (OpenSpec.ofChange queueSharesSpec)

/-- ITS FALSE NEIGHBOUR: 'it returns false'. Refute it at one input. -/
def queueSharesWrong : ChangeSpec := { name := "queueShares", fn := fun _ => fun
  | [d1, d2] => { results := [.lit (.bool false)], args := [d1, d2] }
  | _ => none }
def QueueSharesWrongFalsely : Prop := queueSharesRow.holds Try.pinned (OpenSpec.ofChange queueSharesWrong)

/-- 'lockgatelaw09.QueueLeaves': WHATEVER THE INPUT: true; the input reads as it did. -/
def queueLeavesSpec : ChangeSpec := { name := "queueLeaves", fn := fun _ => fun
  | [d1, d2] => { results := [.lit (.bool true)], args := [d1, d2] }
  | _ => none }
def queueLeavesRow : OpenClaim := { program := "ytbeoigkjlgimdaa", sum := "d230056d99c3923aa3d661fe14dfe0a82c34474fbd2eba20fce5737274d10b96", func := "lockgate/lockgatelaw09.QueueLeaves", spec := "queueLeaves", inPlace := ["slices.overlaps[lockgate/api.Claim]"], unfollowed := true, recurses := true, apart := false }
def QueueLeavesSaid : Prop := queueLeavesRow.holds Try.pinned (OpenSpec.ofChange queueLeavesSpec)

/-- ITS FALSE NEIGHBOUR: 'it returns false'. Refute it at one input. -/
def queueLeavesWrong : ChangeSpec := { name := "queueLeaves", fn := fun _ => fun
  | [d1, d2] => { results := [.lit (.bool false)], args := [d1, d2] }
  | _ => none }
def QueueLeavesWrongFalsely : Prop := queueLeavesRow.holds Try.pinned (OpenSpec.ofChange queueLeavesWrong)

/- THE SECOND FORM. 'bulk': how many values and letters a reading holds, each counted each time it is reached (what is shared counts as often as it is met; a slice's spare places count too). A statement '..UptoSaid' is the law's where the arguments, and the package variables that the reading takes, are together of bulk at most 1048576: NARROWER than '..Said'. Prove '..Said' where nothing that the law and all that it calls make is longer than what came in: it says more and counts as full. Else prove '..UptoSaid'. A law counts once. -/
mutual
def uptoBulk {H : Type} : DataW H → Nat
  | .lit (.string bytes) => bytes.length + 1
  | .lit _ => 1
  | .nil => 1
  | .ptr d => uptoBulk d + 1
  | .slice elems spare => uptoBulkAll elems + uptoBulkAll spare + 1
  | .agg parts => uptoBulkAll parts + 1
  | .iface _ d => uptoBulk d + 1
  | .map entries => uptoBulkEntries entries + 1
  | .held _ => 1
def uptoBulkAll {H : Type} : List (DataW H) → Nat
  | [] => 0
  | d :: r => uptoBulk d + uptoBulkAll r
def uptoBulkEntries {H : Type} : List (Lit × DataW H) → Nat
  | [] => 0
  | x :: r => uptoBulkEntry x + uptoBulkEntries r
def uptoBulkEntry {H : Type} : Lit × DataW H → Nat
  | (.string bytes, d) => bytes.length + uptoBulk d + 1
  | (_, d) => uptoBulk d + 1
 end
def uptoSmall : (H : Type) → List (DataW H) → Bool := fun _ ds => decide (uptoBulkAll ds ≤ 1048576)
def OpenSpec.upto (s : _root_.Go.ChangeSpec) : _root_.Go.OpenSpec := { _root_.Go.OpenSpec.ofChange s with cond := some uptoSmall }

/-- 'lockgatelaw09.QueueSafe', WHERE WHAT IT READS IS OF BULK AT MOST 1048576: true; the input reads as it did. -/
def queueSafeUptoRow : OpenClaim := { program := "ytbeoigkjlgimdaa", sum := "d230056d99c3923aa3d661fe14dfe0a82c34474fbd2eba20fce5737274d10b96", func := "lockgate/lockgatelaw09.QueueSafe", spec := "queueSafe", inPlace := ["slices.overlaps[lockgate/api.Claim]"], unfollowed := true, recurses := true, apart := false, narrowed := true }
def QueueSafeUptoSaid : Prop := queueSafeUptoRow.holds Try.pinned (OpenSpec.upto queueSafeSpec)

/-- 'lockgatelaw09.QueueEnds', WHERE WHAT IT READS IS OF BULK AT MOST 1048576: true; the input reads as it did. -/
def queueEndsUptoRow : OpenClaim := { program := "ytbeoigkjlgimdaa", sum := "d230056d99c3923aa3d661fe14dfe0a82c34474fbd2eba20fce5737274d10b96", func := "lockgate/lockgatelaw09.QueueEnds", spec := "queueEnds", inPlace := ["slices.overlaps[lockgate/api.Claim]"], unfollowed := true, recurses := true, apart := false, narrowed := true }
def QueueEndsUptoSaid : Prop := queueEndsUptoRow.holds Try.pinned (OpenSpec.upto queueEndsSpec)

/-- 'lockgatelaw09.QueueShares', WHERE WHAT IT READS IS OF BULK AT MOST 1048576: true; the input reads as it did. -/
def queueSharesUptoRow : OpenClaim := { program := "ytbeoigkjlgimdaa", sum := "d230056d99c3923aa3d661fe14dfe0a82c34474fbd2eba20fce5737274d10b96", func := "lockgate/lockgatelaw09.QueueShares", spec := "queueShares", inPlace := ["slices.overlaps[lockgate/api.Claim]"], unfollowed := true, recurses := true, apart := false, narrowed := true }
def QueueSharesUptoSaid : Prop := queueSharesUptoRow.holds Try.pinned (OpenSpec.upto queueSharesSpec)

/-- 'lockgatelaw09.QueueLeaves', WHERE WHAT IT READS IS OF BULK AT MOST 1048576: true; the input reads as it did. -/
def queueLeavesUptoRow : OpenClaim := { program := "ytbeoigkjlgimdaa", sum := "d230056d99c3923aa3d661fe14dfe0a82c34474fbd2eba20fce5737274d10b96", func := "lockgate/lockgatelaw09.QueueLeaves", spec := "queueLeaves", inPlace := ["slices.overlaps[lockgate/api.Claim]"], unfollowed := true, recurses := true, apart := false, narrowed := true }
def QueueLeavesUptoSaid : Prop := queueLeavesUptoRow.holds Try.pinned (OpenSpec.upto queueLeavesSpec)

end Rows
end Go.Proofs.Ytbeoigkjlgimdaa
