/-
  NARROWER THAN 'FOR EVERY INPUT', by the rows' own cells (each row's printed sentence says how): JournalHeads: laid · JournalScans: laid · JournalWhole: laid · JournalPuts: laid · JournalBounds: laid.
  DERIVED. THE GIVEN ROWS OF THIS SEAT. 5 by the template 'for every input the law returns true; each argument reads behind the call as it read before'; 0 by the template 'total and deterministic' (their statements: YtgncmgchoogmpaaDoorTotals.lean).
  GIVEN WITH THE SEED: the statements are not yours to turn. If you find one false, say at which input.
  Laid BY PROGRAM, IN A SANDBOX (cutbox-rows.mjs): the forced cells as the released guide's own fill.sh prints them over the translation 0ea5965e217b5aa6… (all of the seat's roots in one cut). By AI agents, Wed Nov 11 2026. No macro, syntax, notation, axiom, sorry.
-/
import Derived.Test.YtgncmgchoogmpaaDoorChecked
import GoSem.Claim
import GoSem.ClaimJoined
import GoSem.ClaimMapViews
import Derived.JoinedTies
import Derived.KernelRfl
namespace Go.Proofs.YtgncmgchoogmpaaDoor
/- THE CELL 'sum', in the pinned program and in every row, IS THE sha256 OF THE DUMP (.gsa) THAT YtgncmgchoogmpaaDoorProg.lean LOADS. Nothing in Lean hashes anything: it is a label: what it is worth is what the hold of that sum in a sandbox is worth. -/
noncomputable def Tryd.pinned : Pinned := { name := "ytgncmgchoogmpaadoor", sum := "0ea5965e217b5aa66b4cd5152f0ca10afbec7aa7c40691bd9ce6b32007466187", checked := Tryd.checked }
namespace Rows
def none {H : Type} : Left H := { results := [], args := [] }

/- WHAT THE LISTED PACKAGE-LEVEL VARIABLES READ AS WHEN THE CALL BEGINS. Each datum BY PROGRAM (the guide's laid-datum.mjs) off the statement by which the dump's own 'gosem.cut.vars' lays the variable. In a bare row this is a premise. The card (YtgncmgchoogmpaaDoorCards.lean) ties it to the program's text. -/
def laid_lockgate_crc_fourSteps {H : Type} : DataW H := .agg [.lit (.int .u32 0), .lit (.int .u32 79764919), .lit (.int .u32 159529838), .lit (.int .u32 222504665), .lit (.int .u32 319059676), .lit (.int .u32 398814059), .lit (.int .u32 445009330), .lit (.int .u32 507990021), .lit (.int .u32 638119352), .lit (.int .u32 583659535), .lit (.int .u32 797628118), .lit (.int .u32 726387553), .lit (.int .u32 890018660), .lit (.int .u32 835552979), .lit (.int .u32 1015980042), .lit (.int .u32 944750013)]

/-- 'lockgatelaw11.JournalHeads': WHATEVER THE INPUT: true; the input reads as it did. -/
def journalHeadsSpec : ChangeSpec := { name := "journalHeads", fn := fun _ => fun
  | [d1, d2] => { results := [.lit (.bool true)], args := [d1, d2] }
  | _ => none }
def journalHeadsRow : OpenClaim := { program := "ytgncmgchoogmpaadoor", sum := "0ea5965e217b5aa66b4cd5152f0ca10afbec7aa7c40691bd9ce6b32007466187", func := "lockgate/lockgatelaw11.JournalHeads", spec := "journalHeads", inPlace := ["internal/abi.NoEscape", "internal/bytealg.MakeNoZero"], unfollowed := true, recurses := true, named := ["lockgate/crc.fourSteps"], apart := false, laid := [("lockgate/crc.fourSteps", laid_lockgate_crc_fourSteps)] }
def JournalHeadsSaid : Prop := journalHeadsRow.holds Tryd.pinned (OpenSpec.ofChange journalHeadsSpec)

/-- ITS FALSE NEIGHBOUR: 'it returns false'. Refute it at one input. -/
def journalHeadsWrong : ChangeSpec := { name := "journalHeads", fn := fun _ => fun
  | [d1, d2] => { results := [.lit (.bool false)], args := [d1, d2] }
  | _ => none }
def JournalHeadsWrongFalsely : Prop := journalHeadsRow.holds Tryd.pinned (OpenSpec.ofChange journalHeadsWrong)

/-- 'lockgatelaw11.JournalScans': WHATEVER THE INPUT: true; the input reads as it did. -/
def journalScansSpec : ChangeSpec := { name := "journalScans", fn := fun _ => fun
  | [d1, d2, d3] => { results := [.lit (.bool true)], args := [d1, d2, d3] }
  | _ => none }
def journalScansRow : OpenClaim := { program := "ytgncmgchoogmpaadoor", sum := "0ea5965e217b5aa66b4cd5152f0ca10afbec7aa7c40691bd9ce6b32007466187", func := "lockgate/lockgatelaw11.JournalScans", spec := "journalScans", inPlace := ["internal/abi.NoEscape", "internal/bytealg.MakeNoZero"], unfollowed := true, recurses := true, named := ["lockgate/crc.fourSteps"], apart := false, laid := [("lockgate/crc.fourSteps", laid_lockgate_crc_fourSteps)] }
def JournalScansSaid : Prop := journalScansRow.holds Tryd.pinned (OpenSpec.ofChange journalScansSpec)

/-- ITS FALSE NEIGHBOUR: 'it returns false'. Refute it at one input. -/
def journalScansWrong : ChangeSpec := { name := "journalScans", fn := fun _ => fun
  | [d1, d2, d3] => { results := [.lit (.bool false)], args := [d1, d2, d3] }
  | _ => none }
def JournalScansWrongFalsely : Prop := journalScansRow.holds Tryd.pinned (OpenSpec.ofChange journalScansWrong)

/-- 'lockgatelaw11.JournalWhole': WHATEVER THE INPUT: true; the input reads as it did. -/
def journalWholeSpec : ChangeSpec := { name := "journalWhole", fn := fun _ => fun
  | [d1, d2, d3] => { results := [.lit (.bool true)], args := [d1, d2, d3] }
  | _ => none }
def journalWholeRow : OpenClaim := { program := "ytgncmgchoogmpaadoor", sum := "0ea5965e217b5aa66b4cd5152f0ca10afbec7aa7c40691bd9ce6b32007466187", func := "lockgate/lockgatelaw11.JournalWhole", spec := "journalWhole", inPlace := ["internal/abi.NoEscape", "internal/bytealg.MakeNoZero"], unfollowed := true, recurses := true, named := ["lockgate/crc.fourSteps"], apart := false, laid := [("lockgate/crc.fourSteps", laid_lockgate_crc_fourSteps)] }
def JournalWholeSaid : Prop := journalWholeRow.holds Tryd.pinned (OpenSpec.ofChange journalWholeSpec)

/-- ITS FALSE NEIGHBOUR: 'it returns false'. Refute it at one input. -/
def journalWholeWrong : ChangeSpec := { name := "journalWhole", fn := fun _ => fun
  | [d1, d2, d3] => { results := [.lit (.bool false)], args := [d1, d2, d3] }
  | _ => none }
def JournalWholeWrongFalsely : Prop := journalWholeRow.holds Tryd.pinned (OpenSpec.ofChange journalWholeWrong)

/-- 'lockgatelaw11.JournalPuts': WHATEVER THE INPUT: true; the input reads as it did. -/
def journalPutsSpec : ChangeSpec := { name := "journalPuts", fn := fun _ => fun
  | [d1, d2] => { results := [.lit (.bool true)], args := [d1, d2] }
  | _ => none }
def journalPutsRow : OpenClaim := { program := "ytgncmgchoogmpaadoor", sum := "0ea5965e217b5aa66b4cd5152f0ca10afbec7aa7c40691bd9ce6b32007466187", func := "lockgate/lockgatelaw11.JournalPuts", spec := "journalPuts", inPlace := ["internal/abi.NoEscape", "internal/bytealg.MakeNoZero"], unfollowed := true, recurses := true, named := ["lockgate/crc.fourSteps"], apart := false, laid := [("lockgate/crc.fourSteps", laid_lockgate_crc_fourSteps)] }
def JournalPutsSaid : Prop := journalPutsRow.holds Tryd.pinned (OpenSpec.ofChange journalPutsSpec)

/-- ITS FALSE NEIGHBOUR: 'it returns false'. Refute it at one input. -/
def journalPutsWrong : ChangeSpec := { name := "journalPuts", fn := fun _ => fun
  | [d1, d2] => { results := [.lit (.bool false)], args := [d1, d2] }
  | _ => none }
def JournalPutsWrongFalsely : Prop := journalPutsRow.holds Tryd.pinned (OpenSpec.ofChange journalPutsWrong)

/-- 'lockgatelaw11.JournalBounds': WHATEVER THE INPUT: true; the input reads as it did. -/
def journalBoundsSpec : ChangeSpec := { name := "journalBounds", fn := fun _ => fun
  | [d1, d2] => { results := [.lit (.bool true)], args := [d1, d2] }
  | _ => none }
def journalBoundsRow : OpenClaim := { program := "ytgncmgchoogmpaadoor", sum := "0ea5965e217b5aa66b4cd5152f0ca10afbec7aa7c40691bd9ce6b32007466187", func := "lockgate/lockgatelaw11.JournalBounds", spec := "journalBounds", inPlace := ["internal/abi.NoEscape", "internal/bytealg.MakeNoZero"], unfollowed := true, recurses := true, named := ["lockgate/crc.fourSteps"], apart := false, laid := [("lockgate/crc.fourSteps", laid_lockgate_crc_fourSteps)] }
def JournalBoundsSaid : Prop := journalBoundsRow.holds Tryd.pinned (OpenSpec.ofChange journalBoundsSpec)

/-- ITS FALSE NEIGHBOUR: 'it returns false'. Refute it at one input. -/
def journalBoundsWrong : ChangeSpec := { name := "journalBounds", fn := fun _ => fun
  | [d1, d2] => { results := [.lit (.bool false)], args := [d1, d2] }
  | _ => none }
def JournalBoundsWrongFalsely : Prop := journalBoundsRow.holds Tryd.pinned (OpenSpec.ofChange journalBoundsWrong)

/- THE SECOND FORM. 'bulk': how many values and letters a reading holds, each counted each time it is reached (what is shared counts as often as it is met; a slice's spare places count too). A statement '..UptoSaid' is the law's where the arguments, and the package variables that the reading takes, are together of bulk at most 1048576: NARROWER than '..Said'. Prove '..Said' where nothing that the law and all that it calls make is longer than what came in: it says more and counts as full. Else prove '..UptoSaid'. A law counts once. -/
mutual
def uptoBulk {H : Type} : DataW H → Nat
  | .lit (.string bytes) => bytes.length + 1
  | .lit _ => 1
  | .nil => 1
  | .ptr d => uptoBulk d + 1
  | .slice elems spare => uptoBulkAll elems + uptoBulkAll spare + 1
  | .agg parts => uptoBulkAll parts + 1
  | .iface _ d => uptoBulk d + 1
  | .map entries => uptoBulkEntries entries + 1
  | .held _ => 1
def uptoBulkAll {H : Type} : List (DataW H) → Nat
  | [] => 0
  | d :: r => uptoBulk d + uptoBulkAll r
def uptoBulkEntries {H : Type} : List (Lit × DataW H) → Nat
  | [] => 0
  | x :: r => uptoBulkEntry x + uptoBulkEntries r
def uptoBulkEntry {H : Type} : Lit × DataW H → Nat
  | (.string bytes, d) => bytes.length + uptoBulk d + 1
  | (_, d) => uptoBulk d + 1
 end
def uptoSmall : (H : Type) → List (DataW H) → Bool := fun _ ds => decide (uptoBulkAll ds ≤ 1048576)
def OpenSpec.upto (s : _root_.Go.ChangeSpec) : _root_.Go.OpenSpec := { _root_.Go.OpenSpec.ofChange s with cond := some uptoSmall }

/-- 'lockgatelaw11.JournalHeads', WHERE WHAT IT READS IS OF BULK AT MOST 1048576: true; the input reads as it did. -/
def journalHeadsUptoRow : OpenClaim := { program := "ytgncmgchoogmpaadoor", sum := "0ea5965e217b5aa66b4cd5152f0ca10afbec7aa7c40691bd9ce6b32007466187", func := "lockgate/lockgatelaw11.JournalHeads", spec := "journalHeads", inPlace := ["internal/abi.NoEscape", "internal/bytealg.MakeNoZero"], unfollowed := true, recurses := true, named := ["lockgate/crc.fourSteps"], apart := false, laid := [("lockgate/crc.fourSteps", laid_lockgate_crc_fourSteps)], narrowed := true }
def JournalHeadsUptoSaid : Prop := journalHeadsUptoRow.holds Tryd.pinned (OpenSpec.upto journalHeadsSpec)

/-- 'lockgatelaw11.JournalScans', WHERE WHAT IT READS IS OF BULK AT MOST 1048576: true; the input reads as it did. -/
def journalScansUptoRow : OpenClaim := { program := "ytgncmgchoogmpaadoor", sum := "0ea5965e217b5aa66b4cd5152f0ca10afbec7aa7c40691bd9ce6b32007466187", func := "lockgate/lockgatelaw11.JournalScans", spec := "journalScans", inPlace := ["internal/abi.NoEscape", "internal/bytealg.MakeNoZero"], unfollowed := true, recurses := true, named := ["lockgate/crc.fourSteps"], apart := false, laid := [("lockgate/crc.fourSteps", laid_lockgate_crc_fourSteps)], narrowed := true }
def JournalScansUptoSaid : Prop := journalScansUptoRow.holds Tryd.pinned (OpenSpec.upto journalScansSpec)

/-- 'lockgatelaw11.JournalWhole', WHERE WHAT IT READS IS OF BULK AT MOST 1048576: true; the input reads as it did. -/
def journalWholeUptoRow : OpenClaim := { program := "ytgncmgchoogmpaadoor", sum := "0ea5965e217b5aa66b4cd5152f0ca10afbec7aa7c40691bd9ce6b32007466187", func := "lockgate/lockgatelaw11.JournalWhole", spec := "journalWhole", inPlace := ["internal/abi.NoEscape", "internal/bytealg.MakeNoZero"], unfollowed := true, recurses := true, named := ["lockgate/crc.fourSteps"], apart := false, laid := [("lockgate/crc.fourSteps", laid_lockgate_crc_fourSteps)], narrowed := true }
def JournalWholeUptoSaid : Prop := journalWholeUptoRow.holds Tryd.pinned (OpenSpec.upto journalWholeSpec)

/-- 'lockgatelaw11.JournalPuts', WHERE WHAT IT READS IS OF BULK AT MOST 1048576: true; the input reads as it did. -/
def journalPutsUptoRow : OpenClaim := { program := "ytgncmgchoogmpaadoor", sum := "0ea5965e217b5aa66b4cd5152f0ca10afbec7aa7c40691bd9ce6b32007466187", func := "lockgate/lockgatelaw11.JournalPuts", spec := "journalPuts", inPlace := ["internal/abi.NoEscape", "internal/bytealg.MakeNoZero"], unfollowed := true, recurses := true, named := ["lockgate/crc.fourSteps"], apart := false, laid := [("lockgate/crc.fourSteps", laid_lockgate_crc_fourSteps)], narrowed := true }
def JournalPutsUptoSaid : Prop := journalPutsUptoRow.holds Tryd.pinned (OpenSpec.upto journalPutsSpec)

/-- 'lockgatelaw11.JournalBounds', WHERE WHAT IT READS IS OF BULK AT MOST 1048576: true; the input reads as it did. -/
def journalBoundsUptoRow : OpenClaim := { program := "ytgncmgchoogmpaadoor", sum := "0ea5965e217b5aa66b4cd5152f0ca10afbec7aa7c40691bd9ce6b32007466187", func := "lockgate/lockgatelaw11.JournalBounds", spec := "journalBounds", inPlace := ["internal/abi.NoEscape", "internal/bytealg.MakeNoZero"], unfollowed := true, recurses := true, named := ["lockgate/crc.fourSteps"], apart := false, laid := [("lockgate/crc.fourSteps", laid_lockgate_crc_fourSteps)], narrowed := true }
def JournalBoundsUptoSaid : Prop := journalBoundsUptoRow.holds Tryd.pinned (OpenSpec.upto journalBoundsSpec)

end Rows
end Go.Proofs.YtgncmgchoogmpaaDoor
