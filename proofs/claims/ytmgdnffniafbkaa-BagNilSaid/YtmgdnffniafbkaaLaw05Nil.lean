/- BagNil: of no network nothing comes; a zero one is new. No conditions. -/
import Derived.Test.YtmgdnffniafbkaaRows
import Derived.Test.YtmgdnffniafbkaaAwake05
import Derived.Test.YtmgdnffniafbkaaOps05

namespace Go.Proofs.Ytmgdnffniafbkaa.bagNil
open Go.RowKit Go.ChangeShapes Go.WideShapes Go.ChangeAt
open Go.ChangeMaps (open_string shut_string)

/-- The world ahead of a call, by what is known of it. -/
theorem gen {f : FuncId} {args : Array Value} {w : World} {R : Ending → World → Prop} (P : World → Prop) (h : P w) (hk : ∀ u, P u → Calls Try.prog f args u R) : Calls Try.prog f args w R := hk w h
set_option maxRecDepth 100000 in
set_option maxHeartbeats 1000000 in
theorem walk (k : Int) (W : World) (hk : (Lit.int .i64 k).wf = true) :
    Calls Try.prog 7 #[.int .i64 k] W fun e W' => e = .returned (.bool true) ∧ Below W.heap.size W W' := by
  have Hk := Lib.hid hk
  clear hk
  go_enter Try.func7, Try.ntmps7
  go_wp2_with fail
  refine gen (fun u => Own W u W.heap.size NS.none (fun _ => False)) ⟨oneHead W.heap.size, isN_made W _ _ rfl, fun g hg => ⟨by rw [oneHead_ne hg]; exact Nat.le_refl _, id⟩, (Below.refl _ _).alloc (Nat.le_refl _) _, fun _ => False.elim⟩ ?_
  intro W1 h1
  have H1 := Lib.hid h1
  clear h1
  refine (Take_nil 0 1 k _).mono ?_
  rintro e w2 ⟨rfl, rfl⟩
  go_wp2_with fail
  refine (Any_nonet k _).mono ?_
  rintro e w2 ⟨rfl, hb2⟩
  have H2 := Lib.hid (H1.out.later hb2)
  clear hb2
  unfold zeroP
  go_wp2_with fail
  obtain ⟨W3, HW3⟩ : ∃ W3, Hid (w2.alloc (.cells #[.int .i64 0, .int .i64 0, .string ⟨#[]⟩] 35) = W3) := ⟨_, Lib.hid rfl⟩
  have H3 : Hid (Own W W3 W.heap.size NS.none (fun _ => False)) := Lib.hid (by rw [← HW3.out]; exact H2.out.later ((Below.refl _ _).alloc (Nat.le_refl _) _))
  rw [HW3.out]
  refine (awake_any _).mono ?_
  rintro e w4 ⟨rfl, hb4⟩
  have H4 := Lib.hid (H3.out.later hb4)
  clear hb4
  go_wp2_with fail
  rw [show (⟨#[]⟩ : ByteArray) = str [] from rfl]
  refine (Send_nil 0 1 [] (by decide) _).mono ?_
  rintro e w5 ⟨rfl, rfl⟩
  go_wp2_with fail
  refine (Drop_nil 0 1 k _).mono ?_
  rintro e w5 ⟨rfl, rfl⟩
  go_wp2_with fail
  refine (Double_nil 0 1 k _).mono ?_
  rintro e w5 ⟨rfl, rfl⟩
  go_wp2_with fail
  refine (Void_none 0 _).mono ?_
  rintro e w5 ⟨rfl, hb5⟩
  have H5 := Lib.hid (H4.out.later hb5)
  clear hb5
  go_wp2_with fail
  refine (Waits_nil 0 1 _).mono ?_
  rintro e w6 ⟨rfl, rfl⟩
  go_wp2_with fail
  refine (All_none _).mono ?_
  rintro e w6 ⟨rfl, hb6⟩
  have H6 := Lib.hid (H5.out.later hb6)
  clear hb6
  go_wp2_with fail
  rw [show (⟨#[120]⟩ : ByteArray) = str [120] from rfl]
  refine (Send_own H6.out 0 1 [120] (by decide)).mono ?_
  rw [show sendB NS.none 0 1 [120] = true from rfl]
  rintro e w7 ⟨rfl, h7, _⟩
  have H7 := Lib.hid h7
  clear h7
  go_wp2_with fail
  refine (Waits_own H7.out 0 1).mono ?_
  rw [show (onL (sendS NS.none 0 1 [120]) 0 1).length = 1 from rfl]
  rintro e w8 ⟨rfl, rfl⟩
  go_wp2
  go_ret
  exact ⟨rfl, H7.out.below⟩
theorem own : ownKnob Try.prog.godebug = none := by kernel_rfl
theorem laidOut : laidOutB Try.prog = true := by kernel_rfl
set_option maxRecDepth 100000 in
theorem lifted (os : Os) (started : os.Started) (H : Type) (enc : TypeId × Value → H) :
    ReturnsInHanded {} Try.checked os 7 .any (Rows.bagNilSpec.pre6 enc Try.prog Try.f7 Rows.bagNilRow.domain false) (Rows.bagNilSpec.post enc Try.prog Try.f7 false true false false) := by
  refine returnsInHanded_of_change (C := Try.checked) own started (by kernel_rfl) Try.func7
    (ChangeSpec.witness6 (enc := enc) (C := Try.checked) false ⟨#[], #[.int .i64 0], []⟩ 8 (by kernel_rfl) (by kernel_rfl) (by kernel_rfl) (by kernel_rfl)) ?_
  intro W base args ds gs before hval0 hW hcnd _
  have hval : ∀ (j : Nat) t v, Try.f7.params[j]? = some t → args[j]? = some v → Value.okWide Try.prog W .any base t v := hval0
  have hW' := hW
  obtain ⟨p, q, hA0, hV, rfl, hfz, hnd⟩ := hW
  have hA : DataW.TrodAll enc Try.prog W 0 (fun _ => true) true Try.f7.params.toList args.toList ds p := hA0
  rw [Try.params7] at hA hval
  obtain ⟨v0, vs0, d0, ds0, p0, q0, hargs, rfl, rfl, h0, r0⟩ := trodAll_cons hA
  obtain ⟨rfl, rfl, rfl⟩ := trodAll_nil r0
  obtain rfl : args = #[v0] := by cases args; simp_all
  obtain ⟨a0, rfl, rfl, rfl, w0⟩ := open_int Try.underlying3 (hval 0 3 v0 rfl rfl) h0
  clear hA0 hval0
  refine (walk a0 W w0).mono fun e W' ⟨he, bel⟩ => ?_
  subst he
  exact ⟨_, rfl, law_post laidOut (by rw [Try.params7]; decide +kernel) rfl Try.underlying4 rfl hW' (fun _ => rfl) bel⟩
theorem over : Rows.bagNilRow.holds Try.pinned (OpenSpec.ofChange Rows.bagNilSpec) :=
  OpenClaim.holds_of_wide 7 Try.f7 rfl rfl rfl rfl rfl rfl rfl ⟨rfl, rfl, rfl, rfl, rfl⟩ rfl rfl rfl rfl rfl (by kernel_rfl) Try.func7 (by kernel_rfl)
    (of_decide_eq_true (by kernel_rfl)) (by unfold Func.isWrapper; first | (rw [if_pos (by decide +kernel)]; kernel_rfl) | (rw [if_neg (by decide +kernel)]; exact ⟨rfl, rfl⟩))
    (fun os started H enc _ => lifted os started H enc)
theorem proved : Rows.BagNilSaid := over
end Go.Proofs.Ytmgdnffniafbkaa.bagNil
