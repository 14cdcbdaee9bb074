/-
  No cell of these rows narrows 'for every input' (looked for: loops, veiled, ifaces, maps, wideKeys, modest, calm, conditions, laid).
  DERIVED. THE GIVEN ROWS OF THIS SEAT. 7 by the template 'for every input the law returns true; each argument reads behind the call as it read before'; 0 by the template 'total and deterministic' (their statements: YtakhhpakajafkaaTotals.lean).
  GIVEN WITH THE SEED: the statements are not yours to turn. If you find one false, say at which input.
  Laid BY PROGRAM, IN A SANDBOX (cutbox-rows.mjs): the forced cells as the released guide's own fill.sh prints them over the translation df3480ea5e82445c… (all of the seat's roots in one cut). By AI agents, Wed Nov 11 2026. No macro, syntax, notation, axiom, sorry.
-/
import Derived.Test.YtakhhpakajafkaaChecked
import GoSem.Claim
import GoSem.ClaimJoined
import GoSem.ClaimMapViews
import Derived.JoinedTies
import Derived.KernelRfl
namespace Go.Proofs.Ytakhhpakajafkaa
/- THE CELL 'sum', in the pinned program and in every row, IS THE sha256 OF THE DUMP (.gsa) THAT YtakhhpakajafkaaProg.lean LOADS. Nothing in Lean hashes anything: it is a label: what it is worth is what the hold of that sum in a sandbox is worth. -/
noncomputable def Try.pinned : Pinned := { name := "ytakhhpakajafkaa", sum := "df3480ea5e82445c42a332eb1f78aa2b4532a3578dcf37911eefed927eb5095b", checked := Try.checked }
namespace Rows
def none {H : Type} : Left H := { results := [], args := [] }

/-- 'lockgatelaw05.BagPlays': WHATEVER THE INPUT: true; the input reads as it did. -/
def bagPlaysSpec : ChangeSpec := { name := "bagPlays", fn := fun _ => fun
  | [d] => { results := [.lit (.bool true)], args := [d] }
  | _ => none }
def bagPlaysRow : OpenClaim := { program := "ytakhhpakajafkaa", sum := "df3480ea5e82445c42a332eb1f78aa2b4532a3578dcf37911eefed927eb5095b", func := "lockgate/lockgatelaw05.BagPlays", spec := "bagPlays", unfollowed := true, recurses := true, apart := false }
def BagPlaysSaid : Prop := bagPlaysRow.holds Try.pinned (OpenSpec.ofChange bagPlaysSpec)

/-- ITS FALSE NEIGHBOUR: 'it returns false'. Refute it at one input. -/
def bagPlaysWrong : ChangeSpec := { name := "bagPlays", fn := fun _ => fun
  | [d] => { results := [.lit (.bool false)], args := [d] }
  | _ => none }
def BagPlaysWrongFalsely : Prop := bagPlaysRow.holds Try.pinned (OpenSpec.ofChange bagPlaysWrong)

/-- 'lockgatelaw05.BagOnce': WHATEVER THE INPUT: true; the input reads as it did. -/
def bagOnceSpec : ChangeSpec := { name := "bagOnce", fn := fun _ => fun
  | [d1, d2] => { results := [.lit (.bool true)], args := [d1, d2] }
  | _ => none }
def bagOnceRow : OpenClaim := { program := "ytakhhpakajafkaa", sum := "df3480ea5e82445c42a332eb1f78aa2b4532a3578dcf37911eefed927eb5095b", func := "lockgate/lockgatelaw05.BagOnce", spec := "bagOnce", unfollowed := true, recurses := true, apart := false }
def BagOnceSaid : Prop := bagOnceRow.holds Try.pinned (OpenSpec.ofChange bagOnceSpec)

/-- ITS FALSE NEIGHBOUR: 'it returns false'. Refute it at one input. -/
def bagOnceWrong : ChangeSpec := { name := "bagOnce", fn := fun _ => fun
  | [d1, d2] => { results := [.lit (.bool false)], args := [d1, d2] }
  | _ => none }
def BagOnceWrongFalsely : Prop := bagOnceRow.holds Try.pinned (OpenSpec.ofChange bagOnceWrong)

/-- 'lockgatelaw05.BagLinks': WHATEVER THE INPUT: true; the input reads as it did. -/
def bagLinksSpec : ChangeSpec := { name := "bagLinks", fn := fun _ => fun
  | [d1, d2] => { results := [.lit (.bool true)], args := [d1, d2] }
  | _ => none }
def bagLinksRow : OpenClaim := { program := "ytakhhpakajafkaa", sum := "df3480ea5e82445c42a332eb1f78aa2b4532a3578dcf37911eefed927eb5095b", func := "lockgate/lockgatelaw05.BagLinks", spec := "bagLinks", unfollowed := true, recurses := true, apart := false }
def BagLinksSaid : Prop := bagLinksRow.holds Try.pinned (OpenSpec.ofChange bagLinksSpec)

/-- ITS FALSE NEIGHBOUR: 'it returns false'. Refute it at one input. -/
def bagLinksWrong : ChangeSpec := { name := "bagLinks", fn := fun _ => fun
  | [d1, d2] => { results := [.lit (.bool false)], args := [d1, d2] }
  | _ => none }
def BagLinksWrongFalsely : Prop := bagLinksRow.holds Try.pinned (OpenSpec.ofChange bagLinksWrong)

/-- 'lockgatelaw05.BagFull': WHATEVER THE INPUT: true; the input reads as it did. -/
def bagFullSpec : ChangeSpec := { name := "bagFull", fn := fun _ => fun
  | [d1, d2] => { results := [.lit (.bool true)], args := [d1, d2] }
  | _ => none }
def bagFullRow : OpenClaim := { program := "ytakhhpakajafkaa", sum := "df3480ea5e82445c42a332eb1f78aa2b4532a3578dcf37911eefed927eb5095b", func := "lockgate/lockgatelaw05.BagFull", spec := "bagFull", unfollowed := true, recurses := true, apart := false }
def BagFullSaid : Prop := bagFullRow.holds Try.pinned (OpenSpec.ofChange bagFullSpec)

/-- ITS FALSE NEIGHBOUR: 'it returns false'. Refute it at one input. -/
def bagFullWrong : ChangeSpec := { name := "bagFull", fn := fun _ => fun
  | [d1, d2] => { results := [.lit (.bool false)], args := [d1, d2] }
  | _ => none }
def BagFullWrongFalsely : Prop := bagFullRow.holds Try.pinned (OpenSpec.ofChange bagFullWrong)

/-- 'lockgatelaw05.BagNil': WHATEVER THE INPUT: true; the input reads as it did. -/
def bagNilSpec : ChangeSpec := { name := "bagNil", fn := fun _ => fun
  | [d] => { results := [.lit (.bool true)], args := [d] }
  | _ => none }
def bagNilRow : OpenClaim := { program := "ytakhhpakajafkaa", sum := "df3480ea5e82445c42a332eb1f78aa2b4532a3578dcf37911eefed927eb5095b", func := "lockgate/lockgatelaw05.BagNil", spec := "bagNil", unfollowed := true, recurses := true, apart := false }
def BagNilSaid : Prop := bagNilRow.holds Try.pinned (OpenSpec.ofChange bagNilSpec)

/-- ITS FALSE NEIGHBOUR: 'it returns false'. Refute it at one input. -/
def bagNilWrong : ChangeSpec := { name := "bagNil", fn := fun _ => fun
  | [d] => { results := [.lit (.bool false)], args := [d] }
  | _ => none }
def BagNilWrongFalsely : Prop := bagNilRow.holds Try.pinned (OpenSpec.ofChange bagNilWrong)

/-- 'lockgatelaw05.BagVoids': WHATEVER THE INPUT: true; the input reads as it did. -/
def bagVoidsSpec : ChangeSpec := { name := "bagVoids", fn := fun _ => fun
  | [d1, d2] => { results := [.lit (.bool true)], args := [d1, d2] }
  | _ => none }
def bagVoidsRow : OpenClaim := { program := "ytakhhpakajafkaa", sum := "df3480ea5e82445c42a332eb1f78aa2b4532a3578dcf37911eefed927eb5095b", func := "lockgate/lockgatelaw05.BagVoids", spec := "bagVoids", unfollowed := true, recurses := true, apart := false }
def BagVoidsSaid : Prop := bagVoidsRow.holds Try.pinned (OpenSpec.ofChange bagVoidsSpec)

/-- ITS FALSE NEIGHBOUR: 'it returns false'. Refute it at one input. -/
def bagVoidsWrong : ChangeSpec := { name := "bagVoids", fn := fun _ => fun
  | [d1, d2] => { results := [.lit (.bool false)], args := [d1, d2] }
  | _ => none }
def BagVoidsWrongFalsely : Prop := bagVoidsRow.holds Try.pinned (OpenSpec.ofChange bagVoidsWrong)

/-- 'lockgatelaw05.BagDoubles': WHATEVER THE INPUT: true; the input reads as it did. -/
def bagDoublesSpec : ChangeSpec := { name := "bagDoubles", fn := fun _ => fun
  | [d1, d2] => { results := [.lit (.bool true)], args := [d1, d2] }
  | _ => none }
def bagDoublesRow : OpenClaim := { program := "ytakhhpakajafkaa", sum := "df3480ea5e82445c42a332eb1f78aa2b4532a3578dcf37911eefed927eb5095b", func := "lockgate/lockgatelaw05.BagDoubles", spec := "bagDoubles", unfollowed := true, recurses := true, apart := false }
def BagDoublesSaid : Prop := bagDoublesRow.holds Try.pinned (OpenSpec.ofChange bagDoublesSpec)

/-- ITS FALSE NEIGHBOUR: 'it returns false'. Refute it at one input. -/
def bagDoublesWrong : ChangeSpec := { name := "bagDoubles", fn := fun _ => fun
  | [d1, d2] => { results := [.lit (.bool false)], args := [d1, d2] }
  | _ => none }
def BagDoublesWrongFalsely : Prop := bagDoublesRow.holds Try.pinned (OpenSpec.ofChange bagDoublesWrong)

/- THE SECOND FORM. 'bulk': how many values and letters a reading holds, each counted each time it is reached (what is shared counts as often as it is met; a slice's spare places count too). A statement '..UptoSaid' is the law's where the arguments, and the package variables that the reading takes, are together of bulk at most 1048576: NARROWER than '..Said'. Prove '..Said' where nothing that the law and all that it calls make is longer than what came in: it says more and counts as full. Else prove '..UptoSaid'. A law counts once. -/
mutual
def uptoBulk {H : Type} : DataW H → Nat
  | .lit (.string bytes) => bytes.length + 1
  | .lit _ => 1
  | .nil => 1
  | .ptr d => uptoBulk d + 1
  | .slice elems spare => uptoBulkAll elems + uptoBulkAll spare + 1
  | .agg parts => uptoBulkAll parts + 1
  | .iface _ d => uptoBulk d + 1
  | .map entries => uptoBulkEntries entries + 1
  | .held _ => 1
def uptoBulkAll {H : Type} : List (DataW H) → Nat
  | [] => 0
  | d :: r => uptoBulk d + uptoBulkAll r
def uptoBulkEntries {H : Type} : List (Lit × DataW H) → Nat
  | [] => 0
  | x :: r => uptoBulkEntry x + uptoBulkEntries r
def uptoBulkEntry {H : Type} : Lit × DataW H → Nat
  | (.string bytes, d) => bytes.length + uptoBulk d + 1
  | (_, d) => uptoBulk d + 1
 end
def uptoSmall : (H : Type) → List (DataW H) → Bool := fun _ ds => decide (uptoBulkAll ds ≤ 1048576)
def OpenSpec.upto (s : _root_.Go.ChangeSpec) : _root_.Go.OpenSpec := { _root_.Go.OpenSpec.ofChange s with cond := some uptoSmall }

/-- 'lockgatelaw05.BagPlays', WHERE WHAT IT READS IS OF BULK AT MOST 1048576: true; the input reads as it did. -/
def bagPlaysUptoRow : OpenClaim := { program := "ytakhhpakajafkaa", sum := "df3480ea5e82445c42a332eb1f78aa2b4532a3578dcf37911eefed927eb5095b", func := "lockgate/lockgatelaw05.BagPlays", spec := "bagPlays", unfollowed := true, recurses := true, apart := false, narrowed := true }
def BagPlaysUptoSaid : Prop := bagPlaysUptoRow.holds Try.pinned (OpenSpec.upto bagPlaysSpec)

/-- 'lockgatelaw05.BagOnce', WHERE WHAT IT READS IS OF BULK AT MOST 1048576: true; the input reads as it did. -/
def bagOnceUptoRow : OpenClaim := { program := "ytakhhpakajafkaa", sum := "df3480ea5e82445c42a332eb1f78aa2b4532a3578dcf37911eefed927eb5095b", func := "lockgate/lockgatelaw05.BagOnce", spec := "bagOnce", unfollowed := true, recurses := true, apart := false, narrowed := true }
def BagOnceUptoSaid : Prop := bagOnceUptoRow.holds Try.pinned (OpenSpec.upto bagOnceSpec)

/-- 'lockgatelaw05.BagLinks', WHERE WHAT IT READS IS OF BULK AT MOST 1048576: true; the input reads as it did. -/
def bagLinksUptoRow : OpenClaim := { program := "ytakhhpakajafkaa", sum := "df3480ea5e82445c42a332eb1f78aa2b4532a3578dcf37911eefed927eb5095b", func := "lockgate/lockgatelaw05.BagLinks", spec := "bagLinks", unfollowed := true, recurses := true, apart := false, narrowed := true }
def BagLinksUptoSaid : Prop := bagLinksUptoRow.holds Try.pinned (OpenSpec.upto bagLinksSpec)

/-- 'lockgatelaw05.BagFull', WHERE WHAT IT READS IS OF BULK AT MOST 1048576: true; the input reads as it did. -/
def bagFullUptoRow : OpenClaim := { program := "ytakhhpakajafkaa", sum := "df3480ea5e82445c42a332eb1f78aa2b4532a3578dcf37911eefed927eb5095b", func := "lockgate/lockgatelaw05.BagFull", spec := "bagFull", unfollowed := true, recurses := true, apart := false, narrowed := true }
def BagFullUptoSaid : Prop := bagFullUptoRow.holds Try.pinned (OpenSpec.upto bagFullSpec)

/-- 'lockgatelaw05.BagNil', WHERE WHAT IT READS IS OF BULK AT MOST 1048576: true; the input reads as it did. -/
def bagNilUptoRow : OpenClaim := { program := "ytakhhpakajafkaa", sum := "df3480ea5e82445c42a332eb1f78aa2b4532a3578dcf37911eefed927eb5095b", func := "lockgate/lockgatelaw05.BagNil", spec := "bagNil", unfollowed := true, recurses := true, apart := false, narrowed := true }
def BagNilUptoSaid : Prop := bagNilUptoRow.holds Try.pinned (OpenSpec.upto bagNilSpec)

/-- 'lockgatelaw05.BagVoids', WHERE WHAT IT READS IS OF BULK AT MOST 1048576: true; the input reads as it did. -/
def bagVoidsUptoRow : OpenClaim := { program := "ytakhhpakajafkaa", sum := "df3480ea5e82445c42a332eb1f78aa2b4532a3578dcf37911eefed927eb5095b", func := "lockgate/lockgatelaw05.BagVoids", spec := "bagVoids", unfollowed := true, recurses := true, apart := false, narrowed := true }
def BagVoidsUptoSaid : Prop := bagVoidsUptoRow.holds Try.pinned (OpenSpec.upto bagVoidsSpec)

/-- 'lockgatelaw05.BagDoubles', WHERE WHAT IT READS IS OF BULK AT MOST 1048576: true; the input reads as it did. -/
def bagDoublesUptoRow : OpenClaim := { program := "ytakhhpakajafkaa", sum := "df3480ea5e82445c42a332eb1f78aa2b4532a3578dcf37911eefed927eb5095b", func := "lockgate/lockgatelaw05.BagDoubles", spec := "bagDoubles", unfollowed := true, recurses := true, apart := false, narrowed := true }
def BagDoublesUptoSaid : Prop := bagDoublesUptoRow.holds Try.pinned (OpenSpec.upto bagDoublesSpec)

end Rows
end Go.Proofs.Ytakhhpakajafkaa
