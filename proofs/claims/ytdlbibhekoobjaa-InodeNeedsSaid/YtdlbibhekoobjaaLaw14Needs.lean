/- More bytes never need fewer sectors; 512 more need just one more; the pieces of all of a file's bytes are in as many sectors: InodeNeeds. -/
import Derived.Test.YtdlbibhekoobjaaRows
import Derived.Test.YtdlbibhekoobjaaIs14

namespace Go.Proofs.Ytdlbibhekoobjaa.inodeNeeds
open Go.RowKit Go.ChangeShapes Go.WideShapes Go.ChangeAt
open Go.ChangeMaps (open_string shut_string)

theorem tmod_bd (a : Int) (m : Nat) (hm : 0 < m) : -(m : Int) < a.tmod m ∧ a.tmod m < m := by
  have h := Int.natAbs_tmod a m
  have h2 : (a.tmod m).natAbs < m := by rw [h]; exact Nat.mod_lt _ (by simpa using hm)
  omega
theorem wf_small {n : Int} (h0 : 0 ≤ n) (h1 : n ≤ 100000) : (Lit.int .i64 n).wf = true := by
  have h2 : IntKind.i64.min = -9223372036854775808 := by decide
  have h3 : IntKind.i64.max = 9223372036854775807 := by decide
  simp [Lit.wf, h2, h3]
  omega
set_option maxRecDepth 100000 in
set_option maxHeartbeats 4000000 in
theorem walk (a0 a1 : Int) (w : World) (_ : (Lit.int .i64 a0).wf = true) (_ : (Lit.int .i64 a1).wf = true) :
    Calls Try.prog 7 #[.int .i64 a0, .int .i64 a1] w fun e w' => e = .returned (.bool true) ∧ Below w.heap.size w w' := by
  obtain ⟨r0, Hr0⟩ : ∃ r, Hid (a0.tmod 6145 = r) := ⟨_, Lib.hid rfl⟩
  obtain ⟨r1, Hr1⟩ : ∃ r, Hid (a1.tmod 6145 = r) := ⟨_, Lib.hid rfl⟩
  have hb0 : -6145 < r0 ∧ r0 < 6145 := by have := tmod_bd a0 6145 (by omega); rw [show ((6145 : Nat) : Int) = 6145 from rfl, Hr0.out] at this; exact this
  have hb1 : -6145 < r1 ∧ r1 < 6145 := by have := tmod_bd a1 6145 (by omega); rw [show ((6145 : Nat) : Int) = 6145 from rfl, Hr1.out] at this; exact this
  obtain ⟨b00, b01⟩ := hb0
  obtain ⟨b10, b11⟩ := hb1
  have hr0 := Hr0.out
  have hr1 := Hr1.out
  go_enter Try.func7, Try.ntmps7
  go_wp2_with fail
  refine (awk14_any _).mono ?_
  rintro e w1 ⟨rfl, hb⟩
  have B1 := Lib.hid hb
  clear hb
  go_upto_if 14 with fail
  go_cut [6] (fun s wx => ∃ v : Nat, v < 6145 ∧ s = .int .i64 v ∧ wx = w1)
  case first =>
    by_cases hneg : r0 < 0
    · go_wp2_with fail
      go_meet
      case rel => exact ⟨(-r0).toNat, by omega, by go_num, rfl⟩
    · go_wp2_with fail
      go_meet
      case rel => exact ⟨r0.toNat, by omega, by go_num, rfl⟩
  case rest =>
  obtain ⟨x0, hx0, rfl, hwc⟩ := hcut
  have hws := hwc.symm; clear hwc; subst hws
  go_upto_if 20 with fail
  go_cut [7] (fun s wx => ∃ v : Nat, v < 6145 ∧ s = .int .i64 v ∧ wx = w1)
  case first =>
    by_cases hneg : r1 < 0
    · go_wp2_with fail
      go_meet
      case rel => exact ⟨(-r1).toNat, by omega, by go_num, rfl⟩
    · go_wp2_with fail
      go_meet
      case rel => exact ⟨r1.toNat, by omega, by go_num, rfl⟩
  case rest =>
  obtain ⟨y0, hy0, rfl, hwc⟩ := hcut
  have hws := hwc.symm; clear hwc; subst hws
  clear hr0 hr1 Hr0 Hr1 b00 b01 b10 b11
  go_upto_if 25 with fail
  go_cut [6, 7] (fun s t wx => ∃ x y : Nat, x ≤ y ∧ y < 6145 ∧ s = .int .i64 x ∧ t = .int .i64 y ∧ wx = w1)
  case first =>
    by_cases hlt : (y0 : Int) < (x0 : Int)
    · go_wp2_with fail
      go_meet
      case rel => exact ⟨y0, x0, by omega, by omega, rfl, rfl, rfl⟩
    · go_wp2_with fail
      go_meet
      case rel => exact ⟨x0, y0, by omega, by omega, rfl, rfl, rfl⟩
  case rest =>
  obtain ⟨x, y, hxy, hy, rfl, rfl, hwc⟩ := hcut
  have hws := hwc.symm; clear hwc; subst hws
  obtain ⟨P, HP⟩ : ∃ p, Hid (pieces 0 (y : Int) = p) := ⟨_, Lib.hid rfl⟩
  obtain ⟨nx, Hnx⟩ : ∃ p, Hid (needI (x : Int) = p) := ⟨_, Lib.hid rfl⟩
  obtain ⟨ny, Hny⟩ : ∃ p, Hid (needI (y : Int) = p) := ⟨_, Lib.hid rfl⟩
  have hn : 0 ≤ nx ∧ nx ≤ ny ∧ ny ≤ 12 ∧ needI ((x : Int) + 512) = nx + 1 ∧ (P.length : Int) = ny := by
    have h1 := Hnx.out
    have h2 := Hny.out
    have hP : (P.length : Int) = needI (y : Int) := by
      rw [← HP.out, pieces, show clampF 0 = 0 from rfl, show clampT 0 (y : Int) = y by unfold clampT; rw [show clampF 0 = 0 from rfl]; omega, pcs_length]
      by_cases hy0 : y = 0
      · subst hy0; rfl
      · rw [if_neg (by omega), needI_hi (by omega)]; omega
    refine ⟨?_, ?_, ?_, ?_, by rw [hP, h2]⟩
    · rw [← h1]; exact (needI_small (by omega)).1
    · rw [← h1, ← h2]
      by_cases hx0 : (x : Int) < 1
      · rw [needI_lo hx0]; exact (needI_small (by omega)).1
      · rw [needI_hi hx0, needI_hi (by omega)]; omega
    · rw [← h2]; exact (needI_small (by omega)).2
    · rw [← h1]
      by_cases hx0 : (x : Int) < 1
      · rw [needI_lo hx0, needI_hi (by omega)]; omega
      · rw [needI_hi hx0, needI_hi (by omega)]; omega
  obtain ⟨hn0, hn1, hn2, hn3, hn4⟩ := hn
  have Hn3 := Lib.hid hn3
  have hl : P.length ≤ 100 := by omega
  clear hn3
  go_wp2_with fail
  refine (Pieces_any _ _ _).mono ?_
  rw [HP.out]
  rintro e w2 ⟨v, rfl, hr, _, hb⟩
  obtain ⟨A, c, he⟩ := hr.shape
  subst he
  have B2 := Lib.hid (bnext B1.out hb)
  clear hr hb
  obtain ⟨pl, Hpl⟩ : ∃ n, Hid (P.length = n) := ⟨_, Lib.hid rfl⟩
  rw [Hpl.out] at hn4 hl ⊢
  go_wp2_with fail
  refine (Need_any _ (wf_small (by omega) (by omega)) _).mono ?_
  rw [Hnx.out]
  rintro e w3 ⟨rfl, rfl⟩
  go_wp2_with fail
  refine (Need_any _ (wf_small (by omega) (by omega)) _).mono ?_
  rw [Hny.out]
  rintro e w3 ⟨rfl, rfl⟩
  go_wp2_with fail
  refine (Need_any _ (wf_small (by omega) (by omega)) _).mono ?_
  rw [Hn3.out]
  rintro e w3 ⟨rfl, rfl⟩
  go_wp2_with fail
  refine (Need_any _ (wf_small (by omega) (by omega)) _).mono ?_
  rw [Hnx.out]
  rintro e w3 ⟨rfl, rfl⟩
  have k1 : IntKind.i64.wrap (nx + 1) = nx + 1 := IntWalk.i64_in _ (by omega)
  go_wp2_with fail
  refine (Need_any _ (wf_small (by omega) (by omega)) _).mono ?_
  rw [Hny.out]
  rintro e w3 ⟨rfl, rfl⟩
  have hq : ((pl : Int) == ny) = true := by simp [hn4]
  clear hn4
  go_wp2
  go_ret
  exact ⟨rfl, B2.out⟩
theorem own : ownKnob Try.prog.godebug = none := by kernel_rfl
theorem laidOut : laidOutB Try.prog = true := by kernel_rfl
set_option maxRecDepth 100000 in
theorem lifted (os : Os) (started : os.Started) (H : Type) (enc : TypeId × Value → H) :
    ReturnsInHanded {} Try.checked os 7 .any (Rows.inodeNeedsSpec.pre6 enc Try.prog Try.f7 Rows.inodeNeedsRow.domain false) (Rows.inodeNeedsSpec.post enc Try.prog Try.f7 false true false false) := by
  refine returnsInHanded_of_change (C := Try.checked) own started (by kernel_rfl) Try.func7
    (ChangeSpec.witness6 (enc := enc) (C := Try.checked) false ⟨#[], #[.int .i64 0, .int .i64 0], []⟩ 8 (by kernel_rfl) (by kernel_rfl) (by kernel_rfl) (by kernel_rfl)) ?_
  intro W base args ds gs before hval0 hW hcnd _
  have hval : ∀ (j : Nat) t v, Try.f7.params[j]? = some t → args[j]? = some v → Value.okWide Try.prog W .any base t v := hval0
  have hW' := hW
  obtain ⟨p, q, hA0, hV, rfl, hfz, hnd⟩ := hW
  have hA : DataW.TrodAll enc Try.prog W 0 (fun _ => true) true Try.f7.params.toList args.toList ds p := hA0
  rw [Try.params7] at hA hval
  obtain ⟨v0, vs0, d0, ds0, p0, q0, hargs, rfl, rfl, h0, r0⟩ := trodAll_cons hA
  obtain ⟨v1, vs1, d1, ds1, p1, q1, rfl, rfl, rfl, h1, r1⟩ := trodAll_cons r0
  obtain ⟨rfl, rfl, rfl⟩ := trodAll_nil r1
  obtain rfl : args = #[v0, v1] := by cases args; simp_all
  obtain ⟨a0, rfl, rfl, rfl, w0⟩ := open_int Try.underlying3 (hval 0 3 v0 rfl rfl) h0
  obtain ⟨a1, rfl, rfl, rfl, w1⟩ := open_int Try.underlying3 (hval 1 3 v1 rfl rfl) h1
  clear hA0 hval0
  refine (walk a0 a1 W w0 w1).mono fun e W' ⟨he, bel⟩ => ?_
  subst he
  exact ⟨_, rfl, law_post laidOut (by rw [Try.params7]; decide +kernel) rfl Try.underlying4 rfl hW' (fun _ => rfl) bel⟩
theorem over : Rows.inodeNeedsRow.holds Try.pinned (OpenSpec.ofChange Rows.inodeNeedsSpec) :=
  OpenClaim.holds_of_wide 7 Try.f7 rfl rfl rfl rfl rfl rfl rfl ⟨rfl, rfl, rfl, rfl, rfl⟩ rfl rfl rfl rfl rfl (by kernel_rfl) Try.func7 (by kernel_rfl)
    (of_decide_eq_true (by kernel_rfl)) (by unfold Func.isWrapper; first | (rw [if_pos (by decide +kernel)]; kernel_rfl) | (rw [if_neg (by decide +kernel)]; exact ⟨rfl, rfl⟩))
    (fun os started H enc _ => lifted os started H enc)
theorem proved : Rows.InodeNeedsSaid := over
end Go.Proofs.Ytdlbibhekoobjaa.inodeNeeds
