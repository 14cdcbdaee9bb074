/- Of no cache nothing comes; a zero one is new. No condition. -/
import Derived.Test.YtocnpjmhkgnomaaRows
import Derived.Test.YtocnpjmhkgnomaaCz18

namespace Go.Proofs.Ytocnpjmhkgnomaa.cacheNil
open Go.RowKit Go.ChangeShapes Go.WideShapes Go.ChangeAt
open Go.ChangeMaps (open_string shut_string)

set_option maxRecDepth 100000 in
set_option maxHeartbeats 2000000 in
theorem walk (s : Int) (w : World) (hs : (Lit.int .i64 s).wf = true) :
    Calls Try.prog 5 #[.int .i64 s] w fun e w' => e = .returned (.bool true) ∧ Below w.heap.size w w' := by
  obtain ⟨W, HW⟩ : ∃ W, Hid (w.alloc (.cells #[.map none] 54) = W) := ⟨_, Lib.hid rfl⟩
  obtain ⟨b, Hb⟩ : ∃ b, Hid (w.heap.size = b) := ⟨_, Lib.hid rfl⟩
  have K0 : Hid (KC w W b none []) := Lib.hid (by
    rw [← HW.out, ← Hb.out]
    exact ⟨⟨rise_nil, by simp, by simp [go_sem], by simp [go_sem], fun _ => rfl, by simp⟩, balloc (Below.refl _ _) _, Nat.le_refl _, by simp⟩)
  go_enter Try.func5, Try.ntmps5
  go_wp2_with fail
  rw [HW.out, Hb.out]
  refine (one_any s [120] _).mono ?_
  rintro e w1 ⟨rfl, b1⟩
  have K1 : Hid (KC w w1 b none []) := Lib.hid (K0.out.later b1)
  clear b1
  go_wp2_with fail
  refine (Put_nil _ _).mono ?_
  rintro e w2 ⟨rfl, rfl⟩
  obtain ⟨W2, HW2⟩ : ∃ W, Hid (w1.alloc (.cells #[.int .i64 s, .string (str [120])] 36) = W) := ⟨_, Lib.hid rfl⟩
  have K2 : Hid (KC w W2 b none []) := Lib.hid (by rw [← HW2.out]; exact K1.out.later (balloc (Below.refl _ _) _))
  rw [HW2.out]
  go_wp2_with fail
  refine (Get_nil _ s).mono ?_
  rintro e w3 ⟨rfl, b3⟩
  have K3 : Hid (KC w w3 b none []) := Lib.hid (K2.out.later b3)
  clear b3
  go_wp2_with fail
  refine (Load_any K3.out.ca s hs [120] (by decide)).mono ?_
  rintro e w4 ⟨rfl, m4, c4, t4⟩
  have K4 : Hid (KC w w4 b m4 [(s, [120], false)]) := Lib.hid (K3.out.to c4 t4)
  clear c4 t4
  have hk : Hid (kvOf [(s, [120], false)] s = ([120], false) ∧ (look [(s, [120], false)] s).isSome = true) := Lib.hid (by simp [kvOf, look])
  go_wp2_with fail
  refine (Get_any K4.out.ca s hs).mono ?_
  rw [hk.out.1, hk.out.2]
  rintro e w5 ⟨rfl, b5⟩
  have K5 : Hid (KC w w5 b m4 [(s, [120], false)]) := Lib.hid (K4.out.later b5)
  clear b5
  go_wp2_with fail
  refine (awk18_any _).mono ?_
  rintro e w6 ⟨rfl, b6⟩
  have K6 : Hid (KC w w6 b m4 [(s, [120], false)]) := Lib.hid (K5.out.later b6)
  clear b6
  go_wp2_with fail
  refine (Load_nil _ s [120]).mono ?_
  rintro e w7 ⟨rfl, b7⟩
  have K7 : Hid (KC w w7 b m4 [(s, [120], false)]) := Lib.hid (K6.out.later b7)
  clear b7
  go_wp2_with fail
  refine (Dirty_nil _ 0 9).mono ?_
  rintro e w8 ⟨rfl, rfl⟩
  go_wp2_with fail
  refine (one_any s [120] _).mono ?_
  rintro e w9 ⟨rfl, b9⟩
  have K9 : Hid (KC w w9 b m4 [(s, [120], false)]) := Lib.hid (K7.out.later b9)
  clear b9
  go_wp2_with fail
  refine (Clean_nil _ _).mono ?_
  rintro e w10 ⟨rfl, rfl⟩
  obtain ⟨W10, HW10⟩ : ∃ W, Hid (w9.alloc (.cells #[.int .i64 s, .string (str [120])] 36) = W) := ⟨_, Lib.hid rfl⟩
  have K10 : Hid (KC w W10 b m4 [(s, [120], false)]) := Lib.hid (by rw [← HW10.out]; exact K9.out.later (balloc (Below.refl _ _) _))
  rw [HW10.out]
  go_wp2_with fail
  refine (Drop_nil _ 0 9).mono ?_
  rintro e w11 ⟨rfl, rfl⟩
  go_wp2_with fail
  refine (CLen_nil _).mono ?_
  rintro e w12 ⟨rfl, rfl⟩
  go_wp2_with fail
  refine (CLen_any K10.out.ca).mono ?_
  rintro e w13 ⟨rfl, rfl⟩
  go_wp2
  go_ret
  exact ⟨rfl, K10.out.below⟩
theorem own : ownKnob Try.prog.godebug = none := by kernel_rfl
theorem laidOut : laidOutB Try.prog = true := by kernel_rfl
set_option maxRecDepth 100000 in
theorem lifted (os : Os) (started : os.Started) (H : Type) (enc : TypeId × Value → H) :
    ReturnsInHanded {} Try.checked os 5 .any (Rows.cacheNilSpec.pre6 enc Try.prog Try.f5 Rows.cacheNilRow.domain false) (Rows.cacheNilSpec.post enc Try.prog Try.f5 false true false false) := by
  refine returnsInHanded_of_change (C := Try.checked) own started (by kernel_rfl) Try.func5
    (ChangeSpec.witness6 (enc := enc) (C := Try.checked) false ⟨#[], #[.int .i64 0], []⟩ 8 (by kernel_rfl) (by kernel_rfl) (by kernel_rfl) (by kernel_rfl)) ?_
  intro W base args ds gs before hval0 hW hcnd _
  have hval : ∀ (j : Nat) t v, Try.f5.params[j]? = some t → args[j]? = some v → Value.okWide Try.prog W .any base t v := hval0
  have hW' := hW
  obtain ⟨p, q, hA0, hV, rfl, hfz, hnd⟩ := hW
  have hA : DataW.TrodAll enc Try.prog W 0 (fun _ => true) true Try.f5.params.toList args.toList ds p := hA0
  rw [Try.params5] at hA hval
  obtain ⟨v0, vs0, d0, ds0, p0, q0, hargs, rfl, rfl, h0, r0⟩ := trodAll_cons hA
  obtain ⟨rfl, rfl, rfl⟩ := trodAll_nil r0
  obtain rfl : args = #[v0] := by cases args; simp_all
  obtain ⟨a0, rfl, rfl, rfl, w0⟩ := open_int Try.underlying3 (hval 0 3 v0 rfl rfl) h0
  clear hA0 hval0
  refine (walk a0 W w0).mono fun e W' ⟨he, bel⟩ => ?_
  subst he
  exact ⟨_, rfl, law_post laidOut (by rw [Try.params5]; decide +kernel) rfl Try.underlying4 rfl hW' (fun _ => rfl) bel⟩
theorem over : Rows.cacheNilRow.holds Try.pinned (OpenSpec.ofChange Rows.cacheNilSpec) :=
  OpenClaim.holds_of_wide 5 Try.f5 rfl rfl rfl rfl rfl rfl rfl ⟨rfl, rfl, rfl, rfl, rfl⟩ rfl rfl rfl rfl rfl (by kernel_rfl) Try.func5 (by kernel_rfl)
    (of_decide_eq_true (by kernel_rfl)) (by unfold Func.isWrapper; first | (rw [if_pos (by decide +kernel)]; kernel_rfl) | (rw [if_neg (by decide +kernel)]; exact ⟨rfl, rfl⟩))
    (fun os started H enc _ => lifted os started H enc)
theorem proved : Rows.CacheNilSaid := over
end Go.Proofs.Ytocnpjmhkgnomaa.cacheNil
