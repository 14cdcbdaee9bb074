/- Of no table and no holder nothing comes; a zero one has no resources. For every number. -/
import Derived.Test.YtgjlcpafkmifoaaRows
import Derived.Test.YtgjlcpafkmifoaaAw10

namespace Go.Proofs.Ytgjlcpafkmifoaa.masterNil
open Go.RowKit Go.ChangeShapes Go.WideShapes Go.ChangeAt
open Go.ChangeMaps (open_string shut_string)

theorem Nudge_nil (w : World) :
    Calls Try.prog 21 #[.pointer none] w fun e w' => e = .returned (.slice none 0 0) ∧ w = w' := by
  go_enter Try.func21, Try.ntmps21
  go_wp2
  go_ret
  exact ⟨rfl, rfl⟩
theorem Queue_nil (w : World) (z : Int) :
    Calls Try.prog 25 #[.pointer none, .int .i64 z] w fun e w' => e = .returned (.agg #[.slice none 0 0, .slice none 0 0]) ∧ Below w.heap.size w w' := by
  go_enter Try.func25, Try.ntmps25
  go_wp2
  refine bodyPost_ret (v := .agg #[.slice none 0 0, .slice none 0 0]) ?_ rfl ⟨rfl, balloc (Below.refl _ _) _⟩
  rw [results_cell1 rfl]
  go_simp
def hz : Ho := ⟨0, 0, fun _ => lk0⟩
theorem hz_new : hz = Ho.new 0 0 := rfl
theorem nz1 : wantOk hz 0 1 = false := by rfl
theorem nz2 : wantN hz 0 1 = nt0 := by rfl
set_option maxHeartbeats 4000000 in
set_option maxRecDepth 100000 in
theorem walk (res : Int) (w : World) (_wf : (Lit.int .i64 res).wf = true) : Calls Try.prog 6 #[.int .i64 res] w fun e w' => e = .returned (.bool true) ∧ Below w.heap.size w w' := by
  have hze : Try.zeroCells72 = hoC 0 0 := by kernel_rfl
  obtain ⟨W, HW⟩ : ∃ x, Hid ((w.alloc (.cells Try.zeroCells72 72)).alloc (.cells #[.int .i64 1, .int .i64 0, .int .i64 0, .int .i64 1, .int .i64 1] 23) = x) := ⟨_, Lib.hid rfl⟩
  obtain ⟨b, Hb⟩ : ∃ x, Hid (w.heap.size = x) := ⟨_, Lib.hid rfl⟩
  have HB : Hid (Below w.heap.size w W) := Lib.hid (by rw [← HW.out]; exact balloc (balloc (Below.refl _ _) _) _)
  have X : Hid (IsH W b hz) := Lib.hid (by rw [← HW.out, ← Hb.out, hz_new, hze]; exact (isH_new w 0 0 _ (by decide)).below (balloc (Below.refl _ _) _))
  have P : Hid (NtAt W (b + 1) ⟨1, 0, 0, 1, 1⟩) := Lib.hid (by
    have := NtAt.new (w.alloc (.cells Try.zeroCells72 72)) ⟨1, 0, 0, 1, 1⟩ 23
    rw [← HW.out, ← Hb.out]
    simpa using this)
  clear hze
  go_enter Try.func6, Try.ntmps6
  go_wp2_with fail
  rw [HW.out, Hb.out]
  have n0 : nt0 = ⟨0, 0, 0, 0, 0⟩ := rfl
  have W1 := Lib.hid (hWant_nil W 0 1)
  rw [n0, ntV_def] at W1
  refine W1.out.mono ?_
  rintro e u1 ⟨rfl, b1⟩
  have B1 : Hid (Below W.heap.size W u1) := Lib.hid b1
  clear b1 W1
  go_wp2_with fail
  obtain ⟨v1, Hv1⟩ : ∃ x, Hid (u1.alloc (.cells #[.int .i64 0, .int .i64 0, .int .i64 0, .int .i64 0, .int .i64 0] 23) = x) := ⟨_, Lib.hid rfl⟩
  have C1 : Hid (Below W.heap.size W v1) := Lib.hid (by rw [← Hv1.out]; exact balloc B1.out _)
  rw [Hv1.out]
  have W2 := Lib.hid (hDrop_nil v1 0 0)
  rw [n0, ntV_def] at W2
  refine W2.out.mono ?_
  rintro e u2 ⟨rfl, b2⟩
  have B2 : Hid (Below W.heap.size W u2) := Lib.hid (bnext C1.out b2)
  clear b2 W2
  go_wp2_with fail
  obtain ⟨v2, Hv2⟩ : ∃ x, Hid (u2.alloc (.cells #[.int .i64 0, .int .i64 0, .int .i64 0, .int .i64 0, .int .i64 0] 23) = x) := ⟨_, Lib.hid rfl⟩
  have C2 : Hid (Below W.heap.size W v2) := Lib.hid (by rw [← Hv2.out]; exact balloc B2.out _)
  rw [Hv2.out]
  refine (Called_nil v2 0).mono ?_
  rintro e u3 ⟨rfl, b3⟩
  have B3 : Hid (Below W.heap.size W u3) := Lib.hid (bnext C2.out b3)
  clear b3
  have W4 := Lib.hid (hWant_any (X.out.below B3.out) 0 1 (fun r _ _ => ⟨by simp [hz, lk0], by simp [hz, lk0]⟩))
  rw [nz1, nz2, n0, ntV_def] at W4
  go_wp2_with fail
  refine W4.out.mono ?_
  rintro e u4 ⟨rfl, x4, m4⟩
  have M4 : Hid (Mod (· = b) W u4) := Lib.hid ((Mod.of_below B3.out).trans m4)
  clear x4 m4 W4
  go_wp2_with fail
  obtain ⟨v4, Hv4⟩ : ∃ x, Hid (u4.alloc (.cells #[.int .i64 0, .int .i64 0, .int .i64 0, .int .i64 0, .int .i64 0] 23) = x) := ⟨_, Lib.hid rfl⟩
  have C4 : Hid (Mod (· = b) W v4) := Lib.hid (by rw [← Hv4.out]; exact M4.out.alloc _)
  rw [Hv4.out]
  refine (Queue_nil v4 res).mono ?_
  rintro e u5 ⟨rfl, b5⟩
  have M5 : Hid (Mod (· = b) W u5) := Lib.hid (C4.out.trans (Mod.of_below b5))
  clear b5
  go_wp2_with fail
  obtain ⟨v5, Hv5⟩ : ∃ x, Hid (u5.alloc (.cells #[.slice none 0 0, .slice none 0 0] 57) = x) := ⟨_, Lib.hid rfl⟩
  obtain ⟨q5, Hq5⟩ : ∃ x, Hid (u5.heap.size = x) := ⟨_, Lib.hid rfl⟩
  have C5 : Hid (Mod (· = b) W v5) := Lib.hid (by rw [← Hv5.out]; exact M5.out.alloc _)
  have Q0 : Hid (v5.cell? ⟨q5, 0, none⟩ = some (.slice none 0 0)) := Lib.hid (by rw [← Hv5.out, ← Hq5.out]; simp [go_sem])
  have Q1 : Hid (v5.cell? ⟨q5, 1, none⟩ = some (.slice none 0 0)) := Lib.hid (by rw [← Hv5.out, ← Hq5.out]; simp [go_sem])
  have P5 := Lib.hid (P.out.later C5.out (by show ¬ (b + 1 = b); omega))
  rw [Hv5.out, Hq5.out]
  have y0 : ∀ y : In (Abv v5), y.u.cell? ⟨q5, 0, none⟩ = some (.slice none 0 0) := fun y => (y.is.cell (p := ⟨q5, 0, none⟩) (lt_of_cell Q0.out)).trans Q0.out
  have y1 : ∀ y : In (Abv v5), y.u.cell? ⟨q5, 1, none⟩ = some (.slice none 0 0) := fun y => (y.is.cell (p := ⟨q5, 1, none⟩) (lt_of_cell Q0.out)).trans Q1.out
  have t0 : ∀ y : In (Abv v5), y.u.cell? ⟨b + 1, 0, none⟩ = some (.int .i64 1) := fun y => (P5.out.below y.is).c0
  have t1 : ∀ y : In (Abv v5), y.u.cell? ⟨b + 1, 1, none⟩ = some (.int .i64 0) := fun y => (P5.out.below y.is).c1
  have t2 : ∀ y : In (Abv v5), y.u.cell? ⟨b + 1, 2, none⟩ = some (.int .i64 0) := fun y => (P5.out.below y.is).c2
  have t3 : ∀ y : In (Abv v5), y.u.cell? ⟨b + 1, 3, none⟩ = some (.int .i64 1) := fun y => (P5.out.below y.is).c3
  have t4 : ∀ y : In (Abv v5), y.u.cell? ⟨b + 1, 4, none⟩ = some (.int .i64 1) := fun y => (P5.out.below y.is).c4
  refine wp_region_mix (by kernel_rfl) (Cls (Abv v5)) [(0, 1), (1, 0), (2, 0), (3, 0), (4, 0), (5, 0), (6, 0), (7, 0), (8, 0), (9, 0), (10, 0), (11, 0), (12, 0), (13, 0), (14, 0), (15, 0), (16, 0), (17, 0), (18, 0), (19, 0), (22, 0), (26, 0), (27, 0), (31, 0), (35, 0), (36, 0), (37, 0), (39, 0), (40, 0), (41, 0), (43, 0), (44, 0), (47, 0), (48, 0), (20, 1), (21, 0), (23, 1), (24, 0), (25, 0), (28, 1), (29, 0), (30, 0), (32, 1), (33, 0), (34, 0), (38, 0), (42, 0), (45, 1), (46, 0), (49, 1), (50, 0), (51, 0), (52, 0), (53, 0)] (by kernel_rfl) (cls (Below.refl _ _).drew) ?_
  obtain ⟨s0, Hs0⟩ : ∃ x, Hid (v5.drew = x) := ⟨_, Lib.hid rfl⟩
  have S0 : Hid (Abv v5 s0) := Lib.hid (by rw [← Hs0.out]; exact drewB _)
  rw [Hs0.out]
  refine mix1 rfl (fun K hK => ?_); go_simp
  have HC := Lib.hid (awake10_any s0)
  refine HC.out.mono ?_
  rintro e s1 ⟨rfl, hb⟩
  have S1 : Hid (Abv v5 s1) := Lib.hid (bnext S0.out hb)
  refine ⟨_, rfl, hK _ _ (cls S1.out) ?_⟩
  clear hK K hb HC
  repeat (refine mix0 rfl (fun K hK => ?_); go_simp; refine hK _ ?_; clear hK K)
  refine mix1 rfl (fun K hK => ?_); go_simp
  have HC := Lib.hid (tHear_nil s1 0 ⟨1, 0, 0, 1, 1⟩)
  rw [ntV_def] at HC
  refine HC.out.mono ?_
  rintro e s2 ⟨rfl, hb⟩
  have S2 : Hid (Abv v5 s2) := Lib.hid (bnext S1.out hb)
  refine ⟨_, rfl, hK _ _ (cls S2.out) ?_⟩
  clear hK K hb HC
  repeat (refine mix0 rfl (fun K hK => ?_); go_simp; refine hK _ ?_; clear hK K)
  refine mix1 rfl (fun K hK => ?_); go_simp
  have HC := Lib.hid (Nudge_nil s2)
  refine HC.out.mono ?_
  rintro e s3 ⟨rfl, rfl⟩
  refine ⟨_, rfl, hK _ _ (cls S2.out) ?_⟩
  clear hK K HC
  repeat (refine mix0 rfl (fun K hK => ?_); go_simp; refine hK _ ?_; clear hK K)
  refine mix1 rfl (fun K hK => ?_); go_simp
  have HC := Lib.hid (hHear_nil s2 ⟨1, 0, 0, 1, 1⟩)
  rw [ntV_def] at HC
  refine HC.out.mono ?_
  rintro e s3 ⟨rfl, hb⟩
  have S3 : Hid (Abv v5 s3) := Lib.hid (bnext S2.out hb)
  refine ⟨_, rfl, hK _ _ (cls S3.out) ?_⟩
  clear hK K hb HC
  repeat (refine mix0 rfl (fun K hK => ?_); go_simp; refine hK _ ?_; clear hK K)
  refine mix1 rfl (fun K hK => ?_); go_simp
  have HC := Lib.hid (hAgain_nil s3)
  refine HC.out.mono ?_
  rintro e s4 ⟨rfl, rfl⟩
  refine ⟨_, rfl, hK _ _ (cls S3.out) ?_⟩
  clear hK K HC
  repeat (refine mix0 rfl (fun K hK => ?_); go_simp; refine hK _ ?_; clear hK K)
  refine mix1 rfl (fun K hK => ?_); go_simp
  have HC := Lib.hid (Mode_nil s3 res)
  refine HC.out.mono ?_
  rintro e s4 ⟨rfl, hb⟩
  have S4 : Hid (Abv v5 s4) := Lib.hid (bnext S3.out hb)
  refine ⟨_, rfl, hK _ _ (cls S4.out) ?_⟩
  clear hK K hb HC
  repeat (refine mix0 rfl (fun K hK => ?_); go_simp; refine hK _ ?_; clear hK K)
  refine mix1 rfl (fun K hK => ?_); go_simp
  have HC := Lib.hid (Wants_nil s4 res)
  refine HC.out.mono ?_
  rintro e s5 ⟨rfl, hb⟩
  have S5 : Hid (Abv v5 s5) := Lib.hid (bnext S4.out hb)
  refine ⟨_, rfl, hK _ _ (cls S5.out) ?_⟩
  clear hK K hb HC
  repeat (refine mix0 rfl (fun K hK => ?_); go_simp; refine hK _ ?_; clear hK K)
  refine mixEnd ?_
  clear y0 y1 t0 t1 t2 t3 t4
  have BE : Hid (Below w.heap.size w s5) := Lib.hid (Mod.below HB.out (C5.out.trans (Mod.of_below S5.out)) HB.out.size (fun i e => by rw [e, ← Hb.out]; exact Nat.le_refl _))
  go_wp2
  go_ret
  exact ⟨rfl, BE.out⟩
theorem own : ownKnob Try.prog.godebug = none := by kernel_rfl
theorem laidOut : laidOutB Try.prog = true := by kernel_rfl
set_option maxRecDepth 100000 in
theorem lifted (os : Os) (started : os.Started) (H : Type) (enc : TypeId × Value → H) :
    ReturnsInHanded {} Try.checked os 6 .any (Rows.masterNilSpec.pre6 enc Try.prog Try.f6 Rows.masterNilRow.domain false) (Rows.masterNilSpec.post enc Try.prog Try.f6 false true false false) := by
  refine returnsInHanded_of_change (C := Try.checked) own started (by kernel_rfl) Try.func6
    (ChangeSpec.witness6 (enc := enc) (C := Try.checked) false ⟨#[], #[.int .i64 0], []⟩ 8 (by kernel_rfl) (by kernel_rfl) (by kernel_rfl) (by kernel_rfl)) ?_
  intro W base args ds gs before hval0 hW hcnd _
  have hval : ∀ (j : Nat) t v, Try.f6.params[j]? = some t → args[j]? = some v → Value.okWide Try.prog W .any base t v := hval0
  have hW' := hW
  obtain ⟨p, q, hA0, hV, rfl, hfz, hnd⟩ := hW
  have hA : DataW.TrodAll enc Try.prog W 0 (fun _ => true) true Try.f6.params.toList args.toList ds p := hA0
  rw [Try.params6] at hA hval
  obtain ⟨v0, vs0, d0, ds0, p0, q0, hargs, rfl, rfl, h0, r0⟩ := trodAll_cons hA
  obtain ⟨rfl, rfl, rfl⟩ := trodAll_nil r0
  obtain rfl : args = #[v0] := by cases args; simp_all
  obtain ⟨a0, rfl, rfl, rfl, w0⟩ := open_int Try.underlying3 (hval 0 3 v0 rfl rfl) h0
  clear hA0 hval0
  refine (walk a0 W w0).mono fun e W' ⟨he, bel⟩ => ?_
  subst he
  exact ⟨_, rfl, law_post laidOut (by rw [Try.params6]; decide +kernel) rfl Try.underlying4 rfl hW' (fun _ => rfl) bel⟩
theorem over : Rows.masterNilRow.holds Try.pinned (OpenSpec.ofChange Rows.masterNilSpec) :=
  OpenClaim.holds_of_wide 6 Try.f6 rfl rfl rfl rfl rfl rfl rfl ⟨rfl, rfl, rfl, rfl, rfl⟩ rfl rfl rfl rfl rfl (by kernel_rfl) Try.func6 (by kernel_rfl)
    (of_decide_eq_true (by kernel_rfl)) (by unfold Func.isWrapper; first | (rw [if_pos (by decide +kernel)]; kernel_rfl) | (rw [if_neg (by decide +kernel)]; exact ⟨rfl, rfl⟩))
    (fun os started H enc _ => lifted os started H enc)
theorem proved : Rows.MasterNilSaid := over
end Go.Proofs.Ytgjlcpafkmifoaa.masterNil
