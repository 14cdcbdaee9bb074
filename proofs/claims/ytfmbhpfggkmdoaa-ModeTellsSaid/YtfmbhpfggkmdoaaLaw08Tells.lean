/- ModeTells: what the program tells of modes is what the document tells: for any two numbers. -/
import Derived.Test.YtfmbhpfggkmdoaaRows
import Derived.Test.YtfmbhpfggkmdoaaOwn8

namespace Go.Proofs.Ytfmbhpfggkmdoaa.modeTells
open Go.RowKit Go.ChangeShapes Go.WideShapes Go.ChangeAt
open Go.ChangeMaps (open_string shut_string)

set_option maxHeartbeats 2000000 in
theorem walk (a b : Int) (w : World) (_ : (Lit.int .i64 a).wf = true) (_ : (Lit.int .i64 b).wf = true) :
    Calls Try.prog 3 #[.int .i64 a, .int .i64 b] w fun e w' => e = .returned (.bool true) ∧ Below w.heap.size w w' := by
  obtain ⟨m, Hm⟩ : ∃ x, Hid (modeB a = x) := ⟨_, Lib.hid rfl⟩
  obtain ⟨f, Hf⟩ : ∃ x, Hid (fitB a b = x) := ⟨_, Lib.hid rfl⟩
  obtain ⟨c, Hc⟩ : ∃ x, Hid (covB a b = x) := ⟨_, Lib.hid rfl⟩
  obtain ⟨x, Hx⟩ : ∃ x, Hid (maxM a b = x) := ⟨_, Lib.hid rfl⟩
  obtain ⟨r, Hr⟩ : ∃ x, Hid (restM a = x) := ⟨_, Lib.hid rfl⟩
  obtain ⟨n, Hn⟩ : ∃ x, Hid (nameM a = x) := ⟨_, Lib.hid rfl⟩
  go_enter Try.func3, Try.ntmps3
  go_wp2_with fail
  refine (awake_any _).mono ?_
  rintro e w1 ⟨rfl, hb⟩
  have B1 := Lib.hid hb
  clear hb
  go_wp2_with fail
  refine (Is_any _ a).mono ?_
  rw [Hm.out]
  rintro e w2 ⟨rfl, hb⟩
  have B2 := Lib.hid (bnext B1.out hb)
  clear hb
  go_wp2_with fail
  refine (IsR_any _ a).mono ?_
  rw [Hm.out]
  rintro e w2' ⟨rfl, rfl⟩
  go_wp2_with fail
  refine (Fit_any _ a b).mono ?_
  rw [Hf.out]
  rintro e w3 ⟨rfl, hb⟩
  have B3 := Lib.hid (bnext B2.out hb)
  clear hb
  go_wp2_with fail
  refine (FitR_any _ a b).mono ?_
  rw [Hf.out]
  rintro e w3' ⟨rfl, rfl⟩
  go_wp2_with fail
  refine (Covers_any _ a b).mono ?_
  rw [Hc.out]
  rintro e w4 ⟨rfl, hb⟩
  have B4 := Lib.hid (bnext B3.out hb)
  clear hb
  go_wp2_with fail
  refine (CoversR_any _ a b).mono ?_
  rw [Hc.out]
  rintro e w4' ⟨rfl, rfl⟩
  go_wp2_with fail
  refine (Max_any _ a b).mono ?_
  rw [Hx.out]
  rintro e w5 ⟨rfl, hb⟩
  have B5 := Lib.hid (bnext B4.out hb)
  clear hb
  go_wp2_with fail
  refine (MaxR_any _ a b).mono ?_
  rw [Hx.out]
  rintro e w5' ⟨rfl, rfl⟩
  go_wp2_with fail
  refine (Rest_any _ a).mono ?_
  rw [Hr.out]
  rintro e w6 ⟨rfl, hb⟩
  have B6 := Lib.hid (bnext B5.out hb)
  clear hb
  go_wp2_with fail
  refine (RestR_any _ a).mono ?_
  rw [Hr.out]
  rintro e w6' ⟨rfl, rfl⟩
  go_wp2_with fail
  refine (Name_any _ a).mono ?_
  rw [Hn.out]
  rintro e w7 ⟨rfl, rfl⟩
  go_wp2_with fail
  refine (NameR_any _ a).mono ?_
  rw [Hn.out]
  rintro e w7' ⟨rfl, rfl⟩
  go_wp2
  go_ret
  exact ⟨ret_bool (by simp), B6.out⟩
theorem own : ownKnob Try.prog.godebug = none := by kernel_rfl
theorem laidOut : laidOutB Try.prog = true := by kernel_rfl
set_option maxRecDepth 100000 in
theorem lifted (os : Os) (started : os.Started) (H : Type) (enc : TypeId × Value → H) :
    ReturnsInHanded {} Try.checked os 3 .any (Rows.modeTellsSpec.pre6 enc Try.prog Try.f3 Rows.modeTellsRow.domain false) (Rows.modeTellsSpec.post enc Try.prog Try.f3 false true false false) := by
  refine returnsInHanded_of_change (C := Try.checked) own started (by kernel_rfl) Try.func3
    (ChangeSpec.witness6 (enc := enc) (C := Try.checked) false ⟨#[], #[.int .i64 0, .int .i64 0], []⟩ 8 (by kernel_rfl) (by kernel_rfl) (by kernel_rfl) (by kernel_rfl)) ?_
  intro W base args ds gs before hval0 hW hcnd _
  have hval : ∀ (j : Nat) t v, Try.f3.params[j]? = some t → args[j]? = some v → Value.okWide Try.prog W .any base t v := hval0
  have hW' := hW
  obtain ⟨p, q, hA0, hV, rfl, hfz, hnd⟩ := hW
  have hA : DataW.TrodAll enc Try.prog W 0 (fun _ => true) true Try.f3.params.toList args.toList ds p := hA0
  rw [Try.params3] at hA hval
  obtain ⟨v0, vs0, d0, ds0, p0, q0, hargs, rfl, rfl, h0, r0⟩ := trodAll_cons hA
  obtain ⟨v1, vs1, d1, ds1, p1, q1, rfl, rfl, rfl, h1, r1⟩ := trodAll_cons r0
  obtain ⟨rfl, rfl, rfl⟩ := trodAll_nil r1
  obtain rfl : args = #[v0, v1] := by cases args; simp_all
  obtain ⟨a0, rfl, rfl, rfl, w0⟩ := open_int Try.underlying3 (hval 0 3 v0 rfl rfl) h0
  obtain ⟨a1, rfl, rfl, rfl, w1⟩ := open_int Try.underlying3 (hval 1 3 v1 rfl rfl) h1
  clear hA0 hval0
  refine (walk a0 a1 W w0 w1).mono fun e W' ⟨he, bel⟩ => ?_
  subst he
  exact ⟨_, rfl, law_post laidOut (by rw [Try.params3]; decide +kernel) rfl Try.underlying4 rfl hW' (fun _ => rfl) bel⟩
theorem over : Rows.modeTellsRow.holds Try.pinned (OpenSpec.ofChange Rows.modeTellsSpec) :=
  OpenClaim.holds_of_wide 3 Try.f3 rfl rfl rfl rfl rfl rfl rfl ⟨rfl, rfl, rfl, rfl, rfl⟩ rfl rfl rfl rfl rfl (by kernel_rfl) Try.func3 (by kernel_rfl)
    (of_decide_eq_true (by kernel_rfl)) (by unfold Func.isWrapper; first | (rw [if_pos (by decide +kernel)]; kernel_rfl) | (rw [if_neg (by decide +kernel)]; exact ⟨rfl, rfl⟩))
    (fun os started H enc _ => lifted os started H enc)
theorem proved : Rows.ModeTellsSaid := over
end Go.Proofs.Ytfmbhpfggkmdoaa.modeTells
