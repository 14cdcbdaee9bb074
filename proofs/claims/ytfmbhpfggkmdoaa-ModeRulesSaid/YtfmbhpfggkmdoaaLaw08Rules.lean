/- ModeRules: whether two modes fit does not hang on the order, what fits a mode fits all that it covers, and Rest fits, and nothing stronger does: for any three numbers, by their rests by 3. -/
import Derived.Test.YtfmbhpfggkmdoaaRows
import Derived.Test.YtfmbhpfggkmdoaaOwn8
import Derived.Deep.DeepCutAuto
namespace Go.Proofs.Ytfmbhpfggkmdoaa.modeRules
open Go.RowKit Go.ChangeShapes Go.WideShapes Go.ChangeAt
open Go.ChangeMaps (open_string shut_string)

theorem max_comm (a b : Int) : maxM a b = maxM b a := by
  rw [max_plain, max_plain, Bool.and_comm]
  rcases Int.lt_trichotomy a b with h | h | h
  · rw [if_neg (show ¬ b < a by omega), if_pos h]
  · rw [h]
  · rw [if_pos h, if_neg (show ¬ a < b by omega)]
theorem two_fact {x y z : Int} (hx : x = 0 ∨ x = 1 ∨ x = 2) (hy : y = 0 ∨ y = 1 ∨ y = 2) (hz : z = 0 ∨ z = 1 ∨ z = 2) : fitB x y = true → covB y z = true → fitB x z = true := by
  rcases hx with rfl | rfl | rfl <;> rcases hy with rfl | rfl | rfl <;> rcases hz with rfl | rfl | rfl <;> decide
theorem three_fact {x : Int} (hx : x = 0 ∨ x = 1 ∨ x = 2) : fitB x (restM x) = true := by
  rcases hx with rfl | rfl | rfl <;> decide
theorem three_fact2 {x y : Int} (hx : x = 0 ∨ x = 1 ∨ x = 2) (hy : y = 0 ∨ y = 1 ∨ y = 2) : covB (restM x) y = fitB x y := by
  rcases hx with rfl | rfl | rfl <;> rcases hy with rfl | rfl | rfl <;> decide
theorem four_fact {x y : Int} (hx : x = 0 ∨ x = 1 ∨ x = 2) (hy : y = 0 ∨ y = 1 ∨ y = 2) : covB (maxM x y) x = true := by
  rcases hx with rfl | rfl | rfl <;> rcases hy with rfl | rfl | rfl <;> decide
theorem four_fact2 {x y z : Int} (hx : x = 0 ∨ x = 1 ∨ x = 2) (hy : y = 0 ∨ y = 1 ∨ y = 2) (hz : z = 0 ∨ z = 1 ∨ z = 2) : covB z x = true → covB z y = true → covB z (maxM x y) = true := by
  rcases hx with rfl | rfl | rfl <;> rcases hy with rfl | rfl | rfl <;> rcases hz with rfl | rfl | rfl <;> decide
theorem tmod_bd (a : Int) {n : Int} (h : 0 < n) : -n < a.tmod n ∧ a.tmod n < n := by
  have h2 := Int.tmod_lt_of_pos a h
  have h3 := Int.lt_tmod_of_pos a h
  omega
set_option maxRecDepth 100000 in
set_option maxHeartbeats 4000000 in
theorem walk (a b c : Int) (w : World) (_ : (Lit.int .i64 a).wf = true) (_ : (Lit.int .i64 b).wf = true) (_ : (Lit.int .i64 c).wf = true) :
    Calls Try.prog 5 #[.int .i64 a, .int .i64 b, .int .i64 c] w fun e w' => e = .returned (.bool true) ∧ Below w.heap.size w w' := by
  obtain ⟨a1, a2⟩ := tmod_bd a (n := 3) (by decide)
  obtain ⟨b1, b2⟩ := tmod_bd b (n := 3) (by decide)
  obtain ⟨c1, c2⟩ := tmod_bd c (n := 3) (by decide)
  go_enter Try.func5, Try.ntmps5
  go_wp2_with fail
  refine (awake_any _).mono ?_
  rintro e w1 ⟨rfl, hb⟩
  have B1 := Lib.hid hb
  clear hb
  obtain ⟨x, Ex⟩ : ∃ x, (a.tmod 3 + 3) % 3 = x := ⟨_, rfl⟩
  obtain ⟨y, Ey⟩ : ∃ x, (b.tmod 3 + 3) % 3 = x := ⟨_, rfl⟩
  obtain ⟨z, Ez⟩ : ∃ x, (c.tmod 3 + 3) % 3 = x := ⟨_, rfl⟩
  have hx : Hid (x = 0 ∨ x = 1 ∨ x = 2) := Lib.hid (by omega)
  have hy : Hid (y = 0 ∨ y = 1 ∨ y = 2) := Lib.hid (by omega)
  have hz : Hid (z = 0 ∨ z = 1 ∨ z = 2) := Lib.hid (by omega)
  have Fx := Lib.hid Ex; have Fy := Lib.hid Ey; have Fz := Lib.hid Ez; clear Ex Ey Ez
  go_upto_region 5 with (fail)
  rw [Fx.out, Fy.out, Fz.out]
  go_cut [8, 9, 10, 11] (fun s8 s9 s10 s11 wx => s8 = .int .i64 x ∧ s9 = .int .i64 y ∧ s10 = .int .i64 z ∧ s11 = .bool true ∧ Hid (Below w.heap.size w wx))
  case first =>
    obtain ⟨f, Hf⟩ : ∃ f, Hid (fitB x y = f) := ⟨_, Lib.hid rfl⟩
    have Hf2 : Hid (fitB y x = f) := Lib.hid (by rw [fit_comm]; exact Hf.out)
    obtain ⟨m, Hm⟩ : ∃ f, Hid (maxM x y = f) := ⟨_, Lib.hid rfl⟩
    have Hm2 : Hid (maxM y x = m) := Lib.hid ((max_comm y x).trans Hm.out)
    go_wp2_with fail
    refine (Fit_any _ x y).mono ?_
    rw [Hf.out]
    rintro e w2 ⟨rfl, hb⟩
    have B2 := Lib.hid (bnext B1.out hb)
    clear hb
    go_wp2_with fail
    refine (Fit_any _ y x).mono ?_
    rw [Hf2.out]
    rintro e w3 ⟨rfl, hb⟩
    have B3 := Lib.hid (bnext B2.out hb)
    clear hb
    go_wp2_with fail
    refine (Max_any _ x y).mono ?_
    rw [Hm.out]
    rintro e w4 ⟨rfl, hb⟩
    have B4 := Lib.hid (bnext B3.out hb)
    clear hb
    go_wp2_with fail
    refine (Max_any _ y x).mono ?_
    rw [Hm2.out]
    rintro e w5 ⟨rfl, hb⟩
    have B5 := Lib.hid (bnext B4.out hb)
    clear hb
    go_wp2
    go_meet
    exact ⟨rfl, rfl, rfl, by simp, B5⟩
  case rest =>
    obtain ⟨rfl, rfl, rfl, rfl, C1⟩ := hcut
    obtain ⟨f, Hf⟩ : ∃ f, Hid (fitB x y = f) := ⟨_, Lib.hid rfl⟩
    obtain ⟨q, Hq⟩ : ∃ f, Hid (covB y z = f) := ⟨_, Lib.hid rfl⟩
    obtain ⟨s, Hs⟩ : ∃ f, Hid (fitB x z = f) := ⟨_, Lib.hid rfl⟩
    have Hfs : Hid (f = true → q = true → s = true) := Lib.hid (by rw [← Hf.out, ← Hq.out, ← Hs.out]; exact two_fact hx.out hy.out hz.out)
    go_upto_region 6 with (fail)
    go_cut [12] (fun s12 wx => s12 = .bool true ∧ Hid (Below w.heap.size w wx))
    case first =>
      have B1 := C1
      go_wp2_with fail
      refine (Fit_any _ x y).mono ?_
      rw [Hf.out]
      rintro e w2 ⟨rfl, hb⟩
      have B2 := Lib.hid (bnext B1.out hb)
      clear hb
      cases f
      · go_wp2
        go_meet
        exact ⟨rfl, B2⟩
      · skip
        go_wp2_with fail
        refine (Covers_any _ y z).mono ?_
        rw [Hq.out]
        rintro e w3 ⟨rfl, hb⟩
        have B3 := Lib.hid (bnext B2.out hb)
        clear hb
        cases q
        · go_wp2
          go_meet
          exact ⟨rfl, B3⟩
        · skip
          have hs := Hfs.out (by trivial) (by trivial)
          subst hs
          go_wp2_with fail
          refine (Fit_any _ x z).mono ?_
          rw [Hs.out]
          rintro e w4 ⟨rfl, hb⟩
          have B4 := Lib.hid (bnext B3.out hb)
          clear hb
          go_wp2
          go_meet
          exact ⟨rfl, B4⟩
    case rest =>
      obtain ⟨rfl, C2⟩ := hcut
      obtain ⟨r, Hr⟩ : ∃ f, Hid (restM x = f) := ⟨_, Lib.hid rfl⟩
      have Hr1 : Hid (fitB x r = true) := Lib.hid (by rw [← Hr.out]; exact three_fact hx.out)
      have Hr2 : Hid (covB r y = f) := Lib.hid (by rw [← Hr.out, ← Hf.out]; exact three_fact2 hx.out hy.out)
      go_upto_region 7 with (fail)
      have B1 := C2
      go_wp2_with fail
      refine (Rest_any _ x).mono ?_
      rw [Hr.out]
      rintro e w2 ⟨rfl, hb⟩
      have B2 := Lib.hid (bnext B1.out hb)
      clear hb
      go_wp2_with fail
      refine (Fit_any _ x r).mono ?_
      rw [Hr1.out]
      rintro e w3 ⟨rfl, hb⟩
      have B3 := Lib.hid (bnext B2.out hb)
      clear hb
      go_wp2_with fail
      refine (Fit_any _ x y).mono ?_
      rw [Hf.out]
      rintro e w4 ⟨rfl, hb⟩
      have B4 := Lib.hid (bnext B3.out hb)
      clear hb
      go_wp2_with fail
      refine (Covers_any _ r y).mono ?_
      rw [Hr2.out]
      rintro e w5 ⟨rfl, hb⟩
      have B5 := Lib.hid (bnext B4.out hb)
      clear hb
      obtain ⟨m, Hm⟩ : ∃ f, Hid (maxM x y = f) := ⟨_, Lib.hid rfl⟩
      have Hm1 : Hid (covB m x = true) := Lib.hid (by rw [← Hm.out]; exact four_fact hx.out hy.out)
      have Hm2 : Hid (covB m y = true) := Lib.hid (by rw [← Hm.out, max_comm]; exact four_fact hy.out hx.out)
      obtain ⟨u, Hu⟩ : ∃ f, Hid (covB z x = f) := ⟨_, Lib.hid rfl⟩
      obtain ⟨v, Hv⟩ : ∃ f, Hid (covB z y = f) := ⟨_, Lib.hid rfl⟩
      obtain ⟨t, Ht⟩ : ∃ f, Hid (covB z m = f) := ⟨_, Lib.hid rfl⟩
      have Huv : Hid (u = true → v = true → t = true) := Lib.hid (by rw [← Hu.out, ← Hv.out, ← Ht.out, ← Hm.out]; exact four_fact2 hx.out hy.out hz.out)
      go_wp2_with fail
      refine (Max_any _ x y).mono ?_
      rw [Hm.out]
      rintro e w6 ⟨rfl, hb⟩
      have B6 := Lib.hid (bnext B5.out hb)
      clear hb
      go_wp2_with fail
      refine (Covers_any _ m x).mono ?_
      rw [Hm1.out]
      rintro e w7 ⟨rfl, hb⟩
      have B7 := Lib.hid (bnext B6.out hb)
      clear hb
      go_wp2_with fail
      refine (Max_any _ x y).mono ?_
      rw [Hm.out]
      rintro e w8 ⟨rfl, hb⟩
      have B8 := Lib.hid (bnext B7.out hb)
      clear hb
      go_wp2_with fail
      refine (Covers_any _ m y).mono ?_
      rw [Hm2.out]
      rintro e w9 ⟨rfl, hb⟩
      have B9 := Lib.hid (bnext B8.out hb)
      clear hb
      go_wp2_with fail
      refine (Covers_any _ z x).mono ?_
      rw [Hu.out]
      rintro e w10 ⟨rfl, hb⟩
      have B10 := Lib.hid (bnext B9.out hb)
      clear hb
      cases u
      · go_wp2
        go_ret
        exact ⟨ret_bool (by simp), B10.out⟩
      · skip
        go_wp2_with fail
        refine (Covers_any _ z y).mono ?_
        rw [Hv.out]
        rintro e w11 ⟨rfl, hb⟩
        have B11 := Lib.hid (bnext B10.out hb)
        clear hb
        cases v
        · go_wp2
          go_ret
          exact ⟨ret_bool (by simp), B11.out⟩
        · skip
          have ht := Huv.out (by trivial) (by trivial)
          subst ht
          go_wp2_with fail
          refine (Max_any _ x y).mono ?_
          rw [Hm.out]
          rintro e w12 ⟨rfl, hb⟩
          have B12 := Lib.hid (bnext B11.out hb)
          clear hb
          go_wp2_with fail
          refine (Covers_any _ z m).mono ?_
          rw [Ht.out]
          rintro e w13 ⟨rfl, hb⟩
          have B13 := Lib.hid (bnext B12.out hb)
          clear hb
          go_wp2
          go_ret
          exact ⟨ret_bool (by simp), B13.out⟩
theorem own : ownKnob Try.prog.godebug = none := by kernel_rfl
theorem laidOut : laidOutB Try.prog = true := by kernel_rfl
set_option maxRecDepth 100000 in
theorem lifted (os : Os) (started : os.Started) (H : Type) (enc : TypeId × Value → H) :
    ReturnsInHanded {} Try.checked os 5 .any (Rows.modeRulesSpec.pre6 enc Try.prog Try.f5 Rows.modeRulesRow.domain false) (Rows.modeRulesSpec.post enc Try.prog Try.f5 false true false false) := by
  refine returnsInHanded_of_change (C := Try.checked) own started (by kernel_rfl) Try.func5
    (ChangeSpec.witness6 (enc := enc) (C := Try.checked) false ⟨#[], #[.int .i64 0, .int .i64 0, .int .i64 0], []⟩ 8 (by kernel_rfl) (by kernel_rfl) (by kernel_rfl) (by kernel_rfl)) ?_
  intro W base args ds gs before hval0 hW hcnd _
  have hval : ∀ (j : Nat) t v, Try.f5.params[j]? = some t → args[j]? = some v → Value.okWide Try.prog W .any base t v := hval0
  have hW' := hW
  obtain ⟨p, q, hA0, hV, rfl, hfz, hnd⟩ := hW
  have hA : DataW.TrodAll enc Try.prog W 0 (fun _ => true) true Try.f5.params.toList args.toList ds p := hA0
  rw [Try.params5] at hA hval
  obtain ⟨v0, vs0, d0, ds0, p0, q0, hargs, rfl, rfl, h0, r0⟩ := trodAll_cons hA
  obtain ⟨v1, vs1, d1, ds1, p1, q1, rfl, rfl, rfl, h1, r1⟩ := trodAll_cons r0
  obtain ⟨v2, vs2, d2, ds2, p2, q2, rfl, rfl, rfl, h2, r2⟩ := trodAll_cons r1
  obtain ⟨rfl, rfl, rfl⟩ := trodAll_nil r2
  obtain rfl : args = #[v0, v1, v2] := by cases args; simp_all
  obtain ⟨a0, rfl, rfl, rfl, w0⟩ := open_int Try.underlying3 (hval 0 3 v0 rfl rfl) h0
  obtain ⟨a1, rfl, rfl, rfl, w1⟩ := open_int Try.underlying3 (hval 1 3 v1 rfl rfl) h1
  obtain ⟨a2, rfl, rfl, rfl, w2⟩ := open_int Try.underlying3 (hval 2 3 v2 rfl rfl) h2
  clear hA0 hval0
  refine (walk a0 a1 a2 W w0 w1 w2).mono fun e W' ⟨he, bel⟩ => ?_
  subst he
  exact ⟨_, rfl, law_post laidOut (by rw [Try.params5]; decide +kernel) rfl Try.underlying4 rfl hW' (fun _ => rfl) bel⟩
theorem over : Rows.modeRulesRow.holds Try.pinned (OpenSpec.ofChange Rows.modeRulesSpec) :=
  OpenClaim.holds_of_wide 5 Try.f5 rfl rfl rfl rfl rfl rfl rfl ⟨rfl, rfl, rfl, rfl, rfl⟩ rfl rfl rfl rfl rfl (by kernel_rfl) Try.func5 (by kernel_rfl)
    (of_decide_eq_true (by kernel_rfl)) (by unfold Func.isWrapper; first | (rw [if_pos (by decide +kernel)]; kernel_rfl) | (rw [if_neg (by decide +kernel)]; exact ⟨rfl, rfl⟩))
    (fun os started H enc _ => lifted os started H enc)
theorem proved : Rows.ModeRulesSaid := over
end Go.Proofs.Ytfmbhpfggkmdoaa.modeRules
