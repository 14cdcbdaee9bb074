/- PulseNil: of no pulse nothing comes, and a zero one has the limit 1, for any node. -/
import Derived.Test.YtjmhepipkmbbmaaRows
import Derived.Test.YtjmhepipkmbbmaaOwn7

namespace Go.Proofs.Ytjmhepipkmbbmaa.pulseNil
open Go.RowKit Go.ChangeShapes Go.WideShapes Go.ChangeAt
open Go.ChangeMaps (open_string shut_string)

def z0 : PS := PS.new 0
def z1 : PS := setP z0 1 false true
def z2 : PS := tickP z1
set_option maxRecDepth 100000 in
set_option maxHeartbeats 1000000 in
theorem walk (node : Int) (w : World) (_hw : (Lit.int .i64 node).wf = true) :
    Calls Try.prog 6 #[.int .i64 node] w fun e w' => e = .returned (.bool true) ∧ Below w.heap.size w w' := by
  have H1 : Hid (setB z0 1 false = true) := Lib.hid (by decide)
  have H2 : Hid (lateL z1 = []) := Lib.hid (by decide)
  have H3 : Hid (lateL z2 = [1]) := Lib.hid (by decide)
  have H4 : Hid (quietP z2 1 = 1) := Lib.hid (by decide)
  have hA1 : At w (w.alloc (.cells (psC z0) 47)) w.heap.size z0 := ⟨isP_new w z0 (fun _ _ => ⟨Int.le_refl (0 : Int), show (0 : Int) ≤ 1000 by decide⟩) _, balloc (Below.refl _ _) _, Nat.le_refl _⟩
  have A1 := Lib.hid hA1
  clear hA1
  go_enter Try.func6, Try.ntmps6
  go_wp2_with fail
  refine (Tick_nil _).mono ?_
  rintro e w1 ⟨rfl, rfl⟩
  go_wp2_with fail
  refine (Watch_at A1.out 1).mono ?_
  rw [H1.out]
  rintro e w2 ⟨rfl, h2⟩
  have A2 : Hid (At w w2 w.heap.size z1) := Lib.hid h2
  clear h2
  go_wp2_with fail
  refine (Late_at A2.out).mono ?_
  rw [H2.out]
  rintro e w3 ⟨a, c, rfl, _, _, h3⟩
  have A3 : Hid (At w w3 w.heap.size z1) := Lib.hid h3
  clear h3
  go_wp2_with fail
  refine (Tick_at A3.out).mono ?_
  rintro e w4 ⟨rfl, h4⟩
  have A4 : Hid (At w w4 w.heap.size z2) := Lib.hid h4
  clear h4
  go_wp2_with fail
  refine (awake_any _).mono ?_
  rintro e w5 ⟨rfl, h5⟩
  have A5 := Lib.hid (A4.out.to h5)
  clear h5
  go_wp2_with fail
  refine (Watch_nil _ 1).mono ?_
  rintro e w6 ⟨rfl, h6⟩
  have A6 := Lib.hid (A5.out.to h6)
  clear h6
  go_wp2_with fail
  refine (Forget_nil _ 1).mono ?_
  rintro e w7 ⟨rfl, h7⟩
  have A7 := Lib.hid (A6.out.to h7)
  clear h7
  go_wp2_with fail
  refine (Heard_nil _ 1).mono ?_
  rintro e w8 ⟨rfl, h8⟩
  have A8 := Lib.hid (A7.out.to h8)
  clear h8
  go_wp2_with fail
  refine (Quiet_nil _ node).mono ?_
  rintro e w9 ⟨rfl, rfl⟩
  go_wp2_with fail
  refine (Late_nil _).mono ?_
  rintro e w10 ⟨rfl, h10⟩
  have A10 := Lib.hid (A8.out.to h10)
  clear h10
  go_wp2_with fail
  refine (Watched_nil _).mono ?_
  rintro e w11 ⟨rfl, h11⟩
  have A11 := Lib.hid (A10.out.to h11)
  clear h11
  go_wp2_with fail
  refine (Late_at A11.out).mono ?_
  rw [H3.out]
  rintro e w12 ⟨a12, c12, rfl, _, _, h12⟩
  have A12 := Lib.hid h12
  clear h12
  go_wp2_with fail
  refine (Quiet_at A12.out 1).mono ?_
  rw [H4.out]
  rintro e w13 ⟨rfl, h13⟩
  have A13 := Lib.hid h13.below
  clear h13
  go_wp2
  go_ret
  exact ⟨rfl, A13.out⟩
theorem own : ownKnob Try.prog.godebug = none := by kernel_rfl
theorem laidOut : laidOutB Try.prog = true := by kernel_rfl
set_option maxRecDepth 100000 in
theorem lifted (os : Os) (started : os.Started) (H : Type) (enc : TypeId × Value → H) :
    ReturnsInHanded {} Try.checked os 6 .any (Rows.pulseNilSpec.pre6 enc Try.prog Try.f6 Rows.pulseNilRow.domain false) (Rows.pulseNilSpec.post enc Try.prog Try.f6 false true false false) := by
  refine returnsInHanded_of_change (C := Try.checked) own started (by kernel_rfl) Try.func6
    (ChangeSpec.witness6 (enc := enc) (C := Try.checked) false ⟨#[], #[.int .i64 0], []⟩ 8 (by kernel_rfl) (by kernel_rfl) (by kernel_rfl) (by kernel_rfl)) ?_
  intro W base args ds gs before hval0 hW hcnd _
  have hval : ∀ (j : Nat) t v, Try.f6.params[j]? = some t → args[j]? = some v → Value.okWide Try.prog W .any base t v := hval0
  have hW' := hW
  obtain ⟨p, q, hA0, hV, rfl, hfz, hnd⟩ := hW
  have hA : DataW.TrodAll enc Try.prog W 0 (fun _ => true) true Try.f6.params.toList args.toList ds p := hA0
  rw [Try.params6] at hA hval
  obtain ⟨v0, vs0, d0, ds0, p0, q0, hargs, rfl, rfl, h0, r0⟩ := trodAll_cons hA
  obtain ⟨rfl, rfl, rfl⟩ := trodAll_nil r0
  obtain rfl : args = #[v0] := by cases args; simp_all
  obtain ⟨a0, rfl, rfl, rfl, w0⟩ := open_int Try.underlying3 (hval 0 3 v0 rfl rfl) h0
  clear hA0 hval0
  refine (walk a0 W w0).mono fun e W' ⟨he, bel⟩ => ?_
  subst he
  exact ⟨_, rfl, law_post laidOut (by rw [Try.params6]; decide +kernel) rfl Try.underlying4 rfl hW' (fun _ => rfl) bel⟩
theorem over : Rows.pulseNilRow.holds Try.pinned (OpenSpec.ofChange Rows.pulseNilSpec) :=
  OpenClaim.holds_of_wide 6 Try.f6 rfl rfl rfl rfl rfl rfl rfl ⟨rfl, rfl, rfl, rfl, rfl⟩ rfl rfl rfl rfl rfl (by kernel_rfl) Try.func6 (by kernel_rfl)
    (of_decide_eq_true (by kernel_rfl)) (by unfold Func.isWrapper; first | (rw [if_pos (by decide +kernel)]; kernel_rfl) | (rw [if_neg (by decide +kernel)]; exact ⟨rfl, rfl⟩))
    (fun os started H enc _ => lifted os started H enc)
theorem proved : Rows.PulseNilSaid := over
end Go.Proofs.Ytjmhepipkmbbmaa.pulseNil
