/- No two layouts have the same bytes, and what is read is what was written: LayoutOne. -/
import Derived.Test.YtnddfekgbabmdaaRows
import Derived.Test.YtnddfekgbabmdaaAw13
import Derived.ChangeKeysEq
namespace Go.Proofs.Ytnddfekgbabmdaa.layoutOne
open Go.RowKit Go.ChangeShapes Go.WideShapes Go.ChangeAt
open Go.ChangeMaps (open_string shut_string)

theorem eq_two (a b c d : Int) (w : World) : (binOp .eql 22 (.agg #[.int .i64 a, .int .i64 b]) (.agg #[.int .i64 c, .int .i64 d])).run Try.prog w = .ok (.bool (decide (a = c) && decide (b = d))) w := by
  have hinfo : (Try.prog.info? 3).map (fun i => (i.zero, i.size, i.bytes)) = some (some (.int .i64 0), 1, 8) := by kernel_rfl
  obtain ⟨i0, hi, hz0, hz1, hz2⟩ := info_parts hinfo
  rw [run_eql_struct, run_equalIn_array (hu := Try.underlying22) (hi := hi)]
  have hc : Try.prog.cellsOf 3 = 1 := by kernel_rfl
  rw [hc]
  simp [Op.eqItems, go_sem, part, Try.underlying3, Sem.run_bind]
  by_cases h0 : a = c <;> by_cases h1 : b = d <;> simp [h0, h1]
set_option maxRecDepth 100000 in
set_option maxHeartbeats 4000000 in
theorem walk (p0 p1 : Int) (q0 q1 : Int) (w : World) (_ : (Lit.int .i64 p0).wf = true) (_ : (Lit.int .i64 p1).wf = true) (_ : (Lit.int .i64 q0).wf = true) (_ : (Lit.int .i64 q1).wf = true) :
    Calls Try.prog 7 #[.agg #[.int .i64 p0, .int .i64 p1], .agg #[.int .i64 q0, .int .i64 q1]] w fun e w' => e = .returned (.bool true) ∧ Below w.heap.size w w' := by
  obtain ⟨A, HA⟩ : ∃ x, Hid (layN p0 p1 = x) := ⟨_, Lib.hid rfl⟩
  obtain ⟨E, HE⟩ : ∃ x, Hid (layE p0 p1 = x) := ⟨_, Lib.hid rfl⟩
  obtain ⟨C, HC⟩ : ∃ x, Hid (layN q0 q1 = x) := ⟨_, Lib.hid rfl⟩
  obtain ⟨F, HF⟩ : ∃ x, Hid (layE q0 q1 = x) := ⟨_, Lib.hid rfl⟩
  obtain ⟨S, HS⟩ : ∃ x, Hid (layB A = x) := ⟨_, Lib.hid rfl⟩
  obtain ⟨T, HT⟩ : ∃ x, Hid (layB C = x) := ⟨_, Lib.hid rfl⟩
  obtain ⟨K, HK⟩ : ∃ x, Hid (layBE A = x) := ⟨_, Lib.hid rfl⟩
  obtain ⟨M, HM⟩ : ∃ x, Hid (layBE C = x) := ⟨_, Lib.hid rfl⟩
  obtain ⟨X, HX⟩ : ∃ x, Hid (rdL S = x) := ⟨_, Lib.hid rfl⟩
  obtain ⟨I, HI⟩ : ∃ x, Hid (rdE S = x) := ⟨_, Lib.hid rfl⟩
  have Hgood : Hid (E = 0 → F = 0 → K = 0 ∧ M = 0 ∧ X = A ∧ I = 0 ∧ (S = T ↔ A = C) ∧ (A = C ↔ p0 = q0 ∧ p1 = q1)) := Lib.hid (fun h h' => by
    have hk : layOk A = true := by rw [← HA.out]; exact layOk_new (by rw [HE.out]; exact h)
    have hk' : layOk C = true := by rw [← HC.out]; exact layOk_new (by rw [HF.out]; exact h')
    obtain ⟨r1, r2⟩ := rd_back (LayOk.of hk)
    obtain ⟨r1', r2'⟩ := rd_back (LayOk.of hk')
    rw [HS.out] at r1 r2
    rw [HT.out] at r1' r2'
    refine ⟨by rw [← HK.out]; exact if_pos hk, by rw [← HM.out]; exact if_pos hk', by rw [← HX.out, rdL, r1, r2]; rfl, by rw [← HI.out, rdE, r1]; rfl, ⟨fun e => ?_, fun e => ?_⟩, ⟨fun e => ?_, fun e => ?_⟩⟩
    · rw [← r2, ← r2', e]
    · rw [← HS.out, ← HT.out, e]
    · rw [← HA.out, ← HC.out, layN_ok (HE.out.trans h), layN_ok (HF.out.trans h')] at e
      simp only [Lay.mk.injEq] at e
      exact ⟨e.1, e.2.1⟩
    · rw [← HA.out, ← HC.out, e.1, e.2])
  obtain ⟨b0, Hb0⟩ : ∃ b, Hid (w.heap.size = b) := ⟨_, Lib.hid rfl⟩
  obtain ⟨V, HV⟩ : ∃ x, Hid ((w.alloc (.cells #[.int .i64 p0, .int .i64 p1] 22)).alloc (.cells #[.int .i64 q0, .int .i64 q1] 22) = x) := ⟨_, Lib.hid rfl⟩
  have BB0 : Hid (Below w.heap.size w V) := Lib.hid (by rw [← HV.out]; exact balloc (balloc (Below.refl _ w) _) _)
  have HP0 : Hid (I2 V b0 p0 p1) := Lib.hid (by rw [← HV.out, ← Hb0.out]; exact ⟨by go_simp, by go_simp⟩)
  have HQ0 : Hid (I2 V (b0 + 1) q0 q1) := Lib.hid (by rw [← HV.out, ← Hb0.out]; exact ⟨by go_simp, by go_simp⟩)
  have hV := HV.out
  have hb0 := Hb0.out
  go_enter Try.func7, Try.ntmps7
  go_wp2_with fail
  refine (awk13_any _).mono ?_
  rintro e x1 ⟨rfl, hb⟩
  have BB1 : Hid (Below w.heap.size w x1) := Lib.hid (bnext BB0.out hb)
  have HP1 := Lib.hid (HP0.out.below hb)
  have HQ1 := Lib.hid (HQ0.out.below hb)
  clear  hb hV hb0
  have ltP := HP1.out.lt
  obtain ⟨cP0, cP1⟩ := HP1.out
  have ltQ := HQ1.out.lt
  obtain ⟨cQ0, cQ1⟩ := HQ1.out
  go_wp2_with fail
  refine (LNew_any _ _ _).mono ?_
  rw [HA.out, HE.out]
  rintro e x2 ⟨rfl, hb⟩
  have BB2 : Hid (Below w.heap.size w x2) := Lib.hid (bnext BB1.out hb)
  have HP2 := Lib.hid (HP1.out.below hb)
  have HQ2 := Lib.hid (HQ1.out.below hb)
  clear ltP cP0 cP1 ltQ cQ0 cQ1 hb
  obtain ⟨qA, HqA⟩ : ∃ q, Hid (x2.heap.size = q) := ⟨_, Lib.hid rfl⟩
  obtain ⟨WA, HWA⟩ : ∃ W, Hid (x2.alloc (.cells #[.int .i64 (A.s), .int .i64 (A.n), .int .i64 (A.f), .int .i64 (A.z)] 24) = W) := ⟨_, Lib.hid rfl⟩
  have hb : Below x2.heap.size x2 WA := by rw [← HWA.out]; exact balloc (Below.refl _ _) _
  have HP3 := Lib.hid (HP2.out.below hb)
  have HQ3 := Lib.hid (HQ2.out.below hb)
  have HA3 : Hid (LayAt WA qA A) := Lib.hid (by rw [← HWA.out, ← HqA.out]; exact ⟨by go_simp, by go_simp, by go_simp, by go_simp⟩)
  have BB3 : Hid (Below w.heap.size w WA) := Lib.hid (bnext BB2.out hb)
  clear hb
  have hWA := HWA.out
  have hqA := HqA.out
  have ltP := HP3.out.lt
  obtain ⟨cP0, cP1⟩ := HP3.out
  have ltQ := HQ3.out.lt
  obtain ⟨cQ0, cQ1⟩ := HQ3.out
  have ltA := HA3.out.lt
  obtain ⟨cA0, cA1, cA2, cA3⟩ := HA3.out
  go_wp2_with fail
  refine (LNew_any _ _ _).mono ?_
  rw [HC.out, HF.out]
  rintro e x4 ⟨rfl, hb⟩
  have BB4 : Hid (Below w.heap.size w x4) := Lib.hid (bnext BB3.out hb)
  have HP4 := Lib.hid (HP3.out.below hb)
  have HQ4 := Lib.hid (HQ3.out.below hb)
  have HA4 := Lib.hid (HA3.out.below hb)
  clear ltP cP0 cP1 ltQ cQ0 cQ1 ltA cA0 cA1 cA2 cA3 hb hWA hqA
  obtain ⟨qC, HqC⟩ : ∃ q, Hid (x4.heap.size = q) := ⟨_, Lib.hid rfl⟩
  obtain ⟨WC, HWC⟩ : ∃ W, Hid (x4.alloc (.cells #[.int .i64 (C.s), .int .i64 (C.n), .int .i64 (C.f), .int .i64 (C.z)] 24) = W) := ⟨_, Lib.hid rfl⟩
  have hb : Below x4.heap.size x4 WC := by rw [← HWC.out]; exact balloc (Below.refl _ _) _
  have HP5 := Lib.hid (HP4.out.below hb)
  have HQ5 := Lib.hid (HQ4.out.below hb)
  have HA5 := Lib.hid (HA4.out.below hb)
  have HC5 : Hid (LayAt WC qC C) := Lib.hid (by rw [← HWC.out, ← HqC.out]; exact ⟨by go_simp, by go_simp, by go_simp, by go_simp⟩)
  have BB5 : Hid (Below w.heap.size w WC) := Lib.hid (bnext BB4.out hb)
  clear hb
  have hWC := HWC.out
  have hqC := HqC.out
  by_cases hE : E = 0
  case neg =>
    have hE2 : (E != 0) = true := by simp [hE]
    clear hE
    go_wp2
    go_ret
    exact ⟨rfl, BB5.out⟩
  case pos =>
  by_cases hF : F = 0
  case neg =>
    have hF2 : (F != 0) = true := by simp [hF]
    subst hE
    clear hF
    go_wp2
    go_ret
    exact ⟨rfl, BB5.out⟩
  case pos =>
  obtain ⟨h1, h2, h3, h4, h5, h6⟩ := Hgood.out hE hF
  have H5 := Lib.hid h5
  have H6 := Lib.hid h6
  clear h5 h6
  subst hE hF h1 h2 h3 h4
  have ltP := HP5.out.lt
  obtain ⟨cP0, cP1⟩ := HP5.out
  have ltQ := HQ5.out.lt
  obtain ⟨cQ0, cQ1⟩ := HQ5.out
  have ltA := HA5.out.lt
  obtain ⟨cA0, cA1, cA2, cA3⟩ := HA5.out
  have ltC := HC5.out.lt
  obtain ⟨cC0, cC1, cC2, cC3⟩ := HC5.out
  go_wp2_with fail
  refine (LBytes_any _ _).mono ?_
  rw [HS.out, HK.out]
  rintro e x6 ⟨rfl, hb⟩
  have BB6 : Hid (Below w.heap.size w x6) := Lib.hid (bnext BB5.out hb)
  have HP6 := Lib.hid (HP5.out.below hb)
  have HQ6 := Lib.hid (HQ5.out.below hb)
  have HA6 := Lib.hid (HA5.out.below hb)
  have HC6 := Lib.hid (HC5.out.below hb)
  clear ltP cP0 cP1 ltQ cQ0 cQ1 ltA cA0 cA1 cA2 cA3 ltC cC0 cC1 cC2 cC3 hb hWC hqC
  have ltP := HP6.out.lt
  obtain ⟨cP0, cP1⟩ := HP6.out
  have ltQ := HQ6.out.lt
  obtain ⟨cQ0, cQ1⟩ := HQ6.out
  have ltA := HA6.out.lt
  obtain ⟨cA0, cA1, cA2, cA3⟩ := HA6.out
  have ltC := HC6.out.lt
  obtain ⟨cC0, cC1, cC2, cC3⟩ := HC6.out
  go_wp2_with fail
  refine (LBytes_any _ _).mono ?_
  rw [HT.out, HM.out]
  rintro e x7 ⟨rfl, hb⟩
  have BB7 : Hid (Below w.heap.size w x7) := Lib.hid (bnext BB6.out hb)
  have HP7 := Lib.hid (HP6.out.below hb)
  have HQ7 := Lib.hid (HQ6.out.below hb)
  have HA7 := Lib.hid (HA6.out.below hb)
  have HC7 := Lib.hid (HC6.out.below hb)
  clear ltP cP0 cP1 ltQ cQ0 cQ1 ltA cA0 cA1 cA2 cA3 ltC cC0 cC1 cC2 cC3 hb
  have ltP := HP7.out.lt
  obtain ⟨cP0, cP1⟩ := HP7.out
  have ltQ := HQ7.out.lt
  obtain ⟨cQ0, cQ1⟩ := HQ7.out
  have ltA := HA7.out.lt
  obtain ⟨cA0, cA1, cA2, cA3⟩ := HA7.out
  have ltC := HC7.out.lt
  obtain ⟨cC0, cC1, cC2, cC3⟩ := HC7.out
  go_wp2_with fail
  refine (LRead_any _ _).mono ?_
  rw [HX.out, HI.out]
  rintro e x8 ⟨rfl, hb⟩
  have BB8 : Hid (Below w.heap.size w x8) := Lib.hid (bnext BB7.out hb)
  have HP8 := Lib.hid (HP7.out.below hb)
  have HQ8 := Lib.hid (HQ7.out.below hb)
  have HA8 := Lib.hid (HA7.out.below hb)
  have HC8 := Lib.hid (HC7.out.below hb)
  clear ltP cP0 cP1 ltQ cQ0 cQ1 ltA cA0 cA1 cA2 cA3 ltC cC0 cC1 cC2 cC3 hb
  obtain ⟨qX, HqX⟩ : ∃ q, Hid (x8.heap.size = q) := ⟨_, Lib.hid rfl⟩
  obtain ⟨WX, HWX⟩ : ∃ W, Hid (x8.alloc (.cells #[.int .i64 (X.s), .int .i64 (X.n), .int .i64 (X.f), .int .i64 (X.z)] 24) = W) := ⟨_, Lib.hid rfl⟩
  have hb : Below x8.heap.size x8 WX := by rw [← HWX.out]; exact balloc (Below.refl _ _) _
  have HP9 := Lib.hid (HP8.out.below hb)
  have HQ9 := Lib.hid (HQ8.out.below hb)
  have HA9 := Lib.hid (HA8.out.below hb)
  have HC9 := Lib.hid (HC8.out.below hb)
  have HX9 : Hid (LayAt WX qX X) := Lib.hid (by rw [← HWX.out, ← HqX.out]; exact ⟨by go_simp, by go_simp, by go_simp, by go_simp⟩)
  have BB9 : Hid (Below w.heap.size w WX) := Lib.hid (bnext BB8.out hb)
  clear hb
  have hWX := HWX.out
  have hqX := HqX.out
  have ltP := HP9.out.lt
  obtain ⟨cP0, cP1⟩ := HP9.out
  have ltQ := HQ9.out.lt
  obtain ⟨cQ0, cQ1⟩ := HQ9.out
  have ltA := HA9.out.lt
  obtain ⟨cA0, cA1, cA2, cA3⟩ := HA9.out
  have ltC := HC9.out.lt
  obtain ⟨cC0, cC1, cC2, cC3⟩ := HC9.out
  have ltX := HX9.out.lt
  obtain ⟨cX0, cX1, cX2, cX3⟩ := HX9.out
  have e0 := eq_same X
  have e1 : ∀ w, (binOp .eql 24 (.agg #[.int .i64 X.s, .int .i64 X.n, .int .i64 X.f, .int .i64 X.z]) (.agg #[.int .i64 C.s, .int .i64 C.n, .int .i64 C.f, .int .i64 C.z])).run Try.prog w = .ok (.bool (decide (X = C))) w := fun w => eq_lay X C w
  have e2 : ∀ w, (binOp .eql 22 (.agg #[.int .i64 p0, .int .i64 p1]) (.agg #[.int .i64 q0, .int .i64 q1])).run Try.prog w = .ok (.bool (decide (X = C))) w := fun w => by
    rw [eq_two]
    congr 2
    rw [decide_eq_decide.2 H6.out, Bool.decide_and]
  have e3 : (S == T) = decide (X = C) := by rw [Bool.eq_iff_iff, beq_iff_eq, decide_eq_true_eq]; exact H5.out
  obtain ⟨D, HD⟩ : ∃ D, Hid (decide (X = C) = D) := ⟨_, Lib.hid rfl⟩
  rw [HD.out] at e3
  simp only [HD.out] at e1 e2
  go_wp2_with fail
  go_quiet (fail)
  go_wp2
  go_ret
  exact ⟨rfl, (BB9.out.trans ((below_drewN _ _).mono BB9.out.size))⟩
theorem own : ownKnob Try.prog.godebug = none := by kernel_rfl
theorem laidOut : laidOutB Try.prog = true := by kernel_rfl
set_option maxRecDepth 100000 in
theorem lifted (os : Os) (started : os.Started) (H : Type) (enc : TypeId × Value → H) :
    ReturnsInHanded {} Try.checked os 7 .any (Rows.layoutOneSpec.pre6 enc Try.prog Try.f7 Rows.layoutOneRow.domain false) (Rows.layoutOneSpec.post enc Try.prog Try.f7 false true false false) := by
  refine returnsInHanded_of_change (C := Try.checked) own started (by kernel_rfl) Try.func7
    (ChangeSpec.witness6 (enc := enc) (C := Try.checked) false ⟨#[], #[.agg #[.int .i64 0, .int .i64 0], .agg #[.int .i64 0, .int .i64 0]], []⟩ 8 (by kernel_rfl) (by kernel_rfl) (by kernel_rfl) (by kernel_rfl)) ?_
  intro W base args ds gs before hval0 hW hcnd _
  have hval : ∀ (j : Nat) t v, Try.f7.params[j]? = some t → args[j]? = some v → Value.okWide Try.prog W .any base t v := hval0
  have hW' := hW
  obtain ⟨p, q, hA0, hV, rfl, hfz, hnd⟩ := hW
  have hA : DataW.TrodAll enc Try.prog W 0 (fun _ => true) true Try.f7.params.toList args.toList ds p := hA0
  rw [Try.params7] at hA hval
  obtain ⟨v0, vs0, d0, ds0, p0, q0, hargs, rfl, rfl, h0, r0⟩ := trodAll_cons hA
  obtain ⟨v1, vs1, d1, ds1, p1, q1, rfl, rfl, rfl, h1, r1⟩ := trodAll_cons r0
  obtain ⟨rfl, rfl, rfl⟩ := trodAll_nil r1
  obtain rfl : args = #[v0, v1] := by cases args; simp_all
  obtain ⟨a0, b0, rfl, w0, y0⟩ := opens_int2 Try.underlying22 (by kernel_rfl) (by kernel_rfl) Try.underlying3 (hval 0 22 v0 rfl rfl) h0
  obtain ⟨a1, b1, rfl, w1, y1⟩ := opens_int2 Try.underlying22 (by kernel_rfl) (by kernel_rfl) Try.underlying3 (hval 1 22 v1 rfl rfl) h1
  clear hA0 hval0
  refine (walk a0 b0 a1 b1 W w0 y0 w1 y1).mono fun e W' ⟨he, bel⟩ => ?_
  subst he
  exact ⟨_, rfl, law_post laidOut (by rw [Try.params7]; decide +kernel) rfl Try.underlying4 rfl hW' (fun _ => rfl) bel⟩
theorem over : Rows.layoutOneRow.holds Try.pinned (OpenSpec.ofChange Rows.layoutOneSpec) :=
  OpenClaim.holds_of_wide 7 Try.f7 rfl rfl rfl rfl rfl rfl rfl ⟨rfl, rfl, rfl, rfl, rfl⟩ rfl rfl rfl rfl rfl (by kernel_rfl) Try.func7 (by kernel_rfl)
    (of_decide_eq_true (by kernel_rfl)) (by unfold Func.isWrapper; first | (rw [if_pos (by decide +kernel)]; kernel_rfl) | (rw [if_neg (by decide +kernel)]; exact ⟨rfl, rfl⟩))
    (fun os started H enc _ => lifted os started H enc)
theorem proved : Rows.LayoutOneSaid := over
end Go.Proofs.Ytnddfekgbabmdaa.layoutOne
