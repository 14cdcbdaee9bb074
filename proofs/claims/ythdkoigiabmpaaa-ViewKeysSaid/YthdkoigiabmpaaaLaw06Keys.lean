/- ViewKeys: no two incarnations, of whatever nodes, have one key. No conditions. -/
import Derived.Test.YthdkoigiabmpaaaRows
import Derived.Test.YthdkoigiabmpaaaAwake06
import Derived.Test.YthdkoigiabmpaaaArr
import Derived.Laws.StructEq
namespace Go.Proofs.Ythdkoigiabmpaaa.viewKeys
open Go.RowKit Go.ChangeShapes Go.WideShapes Go.ChangeAt
open Go.ChangeMaps (open_string shut_string)

theorem key_no {node inc : Int} (h : ¬ (0 ≤ node ∧ node ≤ 7 ∧ 1 ≤ inc ∧ inc ≤ 1099511627776)) : keyOf node inc = 0 := if_pos (by omega)
theorem key_yes {node inc : Int} (h : 0 ≤ node ∧ node ≤ 7 ∧ 1 ≤ inc ∧ inc ≤ 1099511627776) : keyOf node inc = 8 * inc + node + 1 := if_neg (by omega)
theorem key_pos (node inc : Int) : 0 ≤ keyOf node inc := by unfold keyOf; split <;> omega
theorem key_inj {a0 a1 b0 b1 : Int} (h : 0 ≤ a0 ∧ a0 ≤ 7 ∧ 1 ≤ a1 ∧ a1 ≤ 1099511627776) (e : keyOf a0 a1 = keyOf b0 b1) : a0 = b0 ∧ a1 = b1 := by
  rw [key_yes h] at e
  by_cases hb : 0 ≤ b0 ∧ b0 ≤ 7 ∧ 1 ≤ b1 ∧ b1 ≤ 1099511627776
  · rw [key_yes hb] at e; omega
  · rw [key_no hb] at e; omega
theorem eq_arr (a0 a1 b0 b1 : Int) (w : World) : (binOp .eql 57 (.agg #[.int .i64 a0, .int .i64 a1]) (.agg #[.int .i64 b0, .int .i64 b1])).run Try.prog w = .ok (.bool (a0 == b0 && a1 == b1)) w := by
  have hu : Try.prog.underlying 57 = some (.array 2 3) := by kernel_rfl
  have hs : ∀ w, (sizeOf 3).run Try.prog w = .ok 1 w := fun w => by kernel_rfl
  rw [run_eql_struct]
  have h : ∀ d : Nat, (Op.equalIn (d + 2) 57 (.agg #[.int .i64 a0, .int .i64 a1]) (.agg #[.int .i64 b0, .int .i64 b1])).run Try.prog w = .ok (a0 == b0 && a1 == b1) w := fun d => by
    unfold Op.equalIn
    simp only [Sem.run_bind, run_underlying hu, Result.andThen_ok, hs]
    simp [List.range', part, go_sem, hs]
    by_cases h0 : a0 = b0 <;> by_cases h1 : a1 = b1 <;> simp [h0, h1]
  rw [h 9998]
  rfl
set_option maxRecDepth 100000 in
set_option maxHeartbeats 8000000 in
theorem walk (a0 a1 b0 b1 : Int) (w : World) (_ : (Lit.int .i64 a0).wf = true) (_ : (Lit.int .i64 a1).wf = true) (_ : (Lit.int .i64 b0).wf = true) (_ : (Lit.int .i64 b1).wf = true) :
    Calls Try.prog 8 #[.agg #[.int .i64 a0, .int .i64 a1], .agg #[.int .i64 b0, .int .i64 b1]] w fun e w' => e = .returned (.bool true) ∧ Below w.heap.size w w' := by
  have hp := key_pos a0 a1
  obtain ⟨X, HX⟩ : ∃ X, Hid (keyOf a0 a1 = X) := ⟨_, Lib.hid rfl⟩
  obtain ⟨Y, HY⟩ : ∃ Y, Hid (keyOf b0 b1 = Y) := ⟨_, Lib.hid rfl⟩
  rw [HX.out] at hp
  have Hw1 : Hid (Below w.heap.size w ((w.alloc (.cells #[.int .i64 a0, .int .i64 a1] 57)).alloc (.cells #[.int .i64 b0, .int .i64 b1] 57))) := Lib.hid (balloc ((Below.refl _ _).alloc (Nat.le_refl _) _) _)
  go_enter Try.func8, Try.ntmps8
  go_wp2_with fail
  refine (awake_any _).mono ?_
  rintro e w2 ⟨rfl, hb2⟩
  have c0 : w2.cell? ⟨w.heap.size, 0, none⟩ = some (.int .i64 a0) := (hb2.cell (p := ⟨w.heap.size, 0, none⟩) (by simp; omega)).trans (by simp [go_sem])
  have c1 : w2.cell? ⟨w.heap.size, 1, none⟩ = some (.int .i64 a1) := (hb2.cell (p := ⟨w.heap.size, 1, none⟩) (by simp; omega)).trans (by simp [go_sem])
  have d0 : w2.cell? ⟨w.heap.size + 1, 0, none⟩ = some (.int .i64 b0) := (hb2.cell (p := ⟨w.heap.size + 1, 0, none⟩) (by simp)).trans (by simp [go_sem])
  have d1 : w2.cell? ⟨w.heap.size + 1, 1, none⟩ = some (.int .i64 b1) := (hb2.cell (p := ⟨w.heap.size + 1, 1, none⟩) (by simp)).trans (by simp [go_sem])
  have HB2 : Hid (Below w.heap.size w w2) := Lib.hid (bnext Hw1.out hb2)
  clear hb2
  go_wp2_with fail
  refine (Key_any a0 a1 _).mono ?_
  rw [HX.out]
  rintro e w3 ⟨rfl, rfl⟩
  go_wp2_with fail
  refine (Key_any b0 b1 _).mono ?_
  rw [HY.out]
  rintro e w3 ⟨rfl, rfl⟩
  have hway : ((a0 < 0) ∨ (0 ≤ a0 ∧ 7 < a0) ∨ (0 ≤ a0 ∧ a0 ≤ 7 ∧ a1 < 1) ∨ (0 ≤ a0 ∧ a0 ≤ 7 ∧ 1 ≤ a1 ∧ 1099511627776 < a1)) ∨ (0 ≤ a0 ∧ a0 ≤ 7 ∧ 1 ≤ a1 ∧ a1 ≤ 1099511627776) := by omega
  rcases hway with hbad | ⟨h0, h1, h2, h3⟩
  · obtain rfl : X = 0 := by rw [← HX.out]; exact key_no (by omega)
    have e0 : ((0 : Int) == 0) = true := rfl
    by_cases hY : Y = 0
    · subst hY
      have e1 : ((0 : Int) != 0) = false := rfl
      rcases hbad with h0 | ⟨h0, h1⟩ | ⟨h0, h1, h2⟩ | ⟨h0, h1, h2, h3⟩
      case' inl => have g0 : decide (0 ≤ a0) = false := by simpa using h0
      case' inr.inl => have g1 : decide (a0 ≤ 7) = false := by simpa using h1
      case' inr.inr.inl => have g2 : decide (1 ≤ a1) = false := by simpa using h2
      case' inr.inr.inr => have g3 : decide (a1 ≤ 1099511627776) = false := by simpa using h3
      all_goals
        go_wp2
        go_ret
        exact ⟨rfl, HB2.out⟩
    · have e1 : ((0 : Int) != Y) = true := bne_yes (fun e => hY e.symm)
      clear hY
      rcases hbad with h0 | ⟨h0, h1⟩ | ⟨h0, h1, h2⟩ | ⟨h0, h1, h2, h3⟩
      case' inl => have g0 : decide (0 ≤ a0) = false := by simpa using h0
      case' inr.inl => have g1 : decide (a0 ≤ 7) = false := by simpa using h1
      case' inr.inr.inl => have g2 : decide (1 ≤ a1) = false := by simpa using h2
      case' inr.inr.inr => have g3 : decide (a1 ≤ 1099511627776) = false := by simpa using h3
      all_goals
        go_wp2
        go_ret
        exact ⟨rfl, HB2.out⟩
  · have hX : 0 < X := by rw [← HX.out, key_yes ⟨h0, h1, h2, h3⟩]; omega
    have e0 : (X == 0) = false := beq_no (by omega)
    by_cases hY : X = Y
    · have e1 : (X != Y) = false := bne_no hY
      obtain ⟨rfl, rfl⟩ := key_inj ⟨h0, h1, h2, h3⟩ (HX.out.trans (hY.trans HY.out.symm))
      have E := fun w => eq_arr a0 a1 a0 a1 w
      simp only [beq_self_eq_true, Bool.and_self] at E
      clear hY
      go_wp2
      go_ret
      exact ⟨rfl, HB2.out⟩
    · have e1 : (X != Y) = true := bne_yes hY
      clear hY
      go_wp2
      go_ret
      exact ⟨rfl, HB2.out⟩
theorem own : ownKnob Try.prog.godebug = none := by kernel_rfl
theorem laidOut : laidOutB Try.prog = true := by kernel_rfl
set_option maxRecDepth 100000 in
theorem lifted (os : Os) (started : os.Started) (H : Type) (enc : TypeId × Value → H) :
    ReturnsInHanded {} Try.checked os 8 .any (Rows.viewKeysSpec.pre6 enc Try.prog Try.f8 Rows.viewKeysRow.domain false) (Rows.viewKeysSpec.post enc Try.prog Try.f8 false true false false) := by
  refine returnsInHanded_of_change (C := Try.checked) own started (by kernel_rfl) Try.func8
    (ChangeSpec.witness6 (enc := enc) (C := Try.checked) false ⟨#[], #[.agg #[.int .i64 0, .int .i64 0], .agg #[.int .i64 0, .int .i64 0]], []⟩ 8 (by kernel_rfl) (by kernel_rfl) (by kernel_rfl) (by kernel_rfl)) ?_
  intro W base args ds gs before hval0 hW hcnd _
  have hval : ∀ (j : Nat) t v, Try.f8.params[j]? = some t → args[j]? = some v → Value.okWide Try.prog W .any base t v := hval0
  have hW' := hW
  obtain ⟨p, q, hA0, hV, rfl, hfz, hnd⟩ := hW
  have hA : DataW.TrodAll enc Try.prog W 0 (fun _ => true) true Try.f8.params.toList args.toList ds p := hA0
  rw [Try.params8] at hA hval
  obtain ⟨v0, vs0, d0, ds0, p0, q0, hargs, rfl, rfl, h0, r0⟩ := trodAll_cons hA
  obtain ⟨v1, vs1, d1, ds1, p1, q1, rfl, rfl, rfl, h1, r1⟩ := trodAll_cons r0
  obtain ⟨rfl, rfl, rfl⟩ := trodAll_nil r1
  obtain rfl : args = #[v0, v1] := by cases args; simp_all
  obtain ⟨a0, b0, rfl, w0, y0⟩ := opens_int2 Try.underlying57 (by kernel_rfl) (by kernel_rfl) Try.underlying3 (hval 0 57 v0 rfl rfl) h0
  obtain ⟨a1, b1, rfl, w1, y1⟩ := opens_int2 Try.underlying57 (by kernel_rfl) (by kernel_rfl) Try.underlying3 (hval 1 57 v1 rfl rfl) h1
  clear hA0 hval0
  refine (walk a0 b0 a1 b1 W w0 y0 w1 y1).mono fun e W' ⟨he, bel⟩ => ?_
  subst he
  exact ⟨_, rfl, law_post laidOut (by rw [Try.params8]; decide +kernel) rfl Try.underlying4 rfl hW' (fun _ => rfl) bel⟩
theorem over : Rows.viewKeysRow.holds Try.pinned (OpenSpec.ofChange Rows.viewKeysSpec) :=
  OpenClaim.holds_of_wide 8 Try.f8 rfl rfl rfl rfl rfl rfl rfl ⟨rfl, rfl, rfl, rfl, rfl⟩ rfl rfl rfl rfl rfl (by kernel_rfl) Try.func8 (by kernel_rfl)
    (of_decide_eq_true (by kernel_rfl)) (by unfold Func.isWrapper; first | (rw [if_pos (by decide +kernel)]; kernel_rfl) | (rw [if_neg (by decide +kernel)]; exact ⟨rfl, rfl⟩))
    (fun os started H enc _ => lifted os started H enc)
theorem proved : Rows.ViewKeysSaid := over
end Go.Proofs.Ythdkoigiabmpaaa.viewKeys
