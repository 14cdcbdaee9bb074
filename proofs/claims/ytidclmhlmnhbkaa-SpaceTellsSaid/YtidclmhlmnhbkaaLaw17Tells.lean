/- Which maps are right, how many sectors are free and which are taken, are as the document says: SpaceTells. -/
import Derived.Test.YtidclmhlmnhbkaaRows
import Derived.Test.YtidclmhlmnhbkaaOy17

namespace Go.Proofs.Ytidclmhlmnhbkaa.spaceTells
open Go.RowKit Go.ChangeShapes Go.WideShapes Go.ChangeAt
open Go.ChangeMaps (open_string shut_string)

set_option maxRecDepth 100000 in
set_option maxHeartbeats 8000000 in
theorem walk (l : Lay) (A : Option Addr) (n c : Nat) (ss : List (List UInt8)) (x : Int) (w : World) (_hl : (Lit.int .i64 l.s).wf = true ∧ (Lit.int .i64 l.n).wf = true ∧ (Lit.int .i64 l.f).wf = true ∧ (Lit.int .i64 l.z).wf = true) (h1 : IsStrs w A n ss) (hx : (Lit.int .i64 x).wf = true) :
    Calls Try.prog 3 #[l.v, .slice A n c, .int .i64 x] w fun e w' => e = .returned (.bool true) ∧ Below w.heap.size w w' := by
  obtain ⟨W, p, HW, Hp, HL⟩ := layBoxed l w
  have hG := Lib.hid ((isG_of h1).1.below HL.out.2)
  have Hsl := Lib.hid (isG_of h1).2
  have Hml := Lib.hid (cutM_len ss)
  obtain ⟨M, HM⟩ : ∃ m, Hid (cutM ss = m) := ⟨_, Lib.hid rfl⟩
  rw [HM.out] at Hml
  obtain ⟨R, HR⟩ : ∃ m, Hid (rightM l M = m) := ⟨_, Lib.hid rfl⟩
  obtain ⟨F, HF⟩ : ∃ m, Hid (freeM l M = m) := ⟨_, Lib.hid rfl⟩
  obtain ⟨T, HT⟩ : ∃ m, Hid (takenM l M x = m) := ⟨_, Lib.hid rfl⟩
  clear h1 _hl
  go_enter Try.func3, Try.ntmps3
  go_wp2_with fail
  rw [HW.out, Hp.out]
  refine (awk17_any W).mono ?_
  rintro e w1 ⟨rfl, b1⟩
  have B1 := Lib.hid b1
  clear b1
  go_wp2_with fail
  refine (small17_any A n c ss w1 (hG.out.below B1.out) Hsl.out).mono ?_
  rw [HM.out]
  rintro e w2 ⟨A2, n2, c2, rfl, gr, _, gb⟩
  have D2 : Hid (Below W.heap.size W w2 ∧ IsG w2 1 encT A2 n2 M) := Lib.hid ⟨bnext B1.out gb, (gr.is encT_ok).1⟩
  clear gr gb
  obtain ⟨e0, e1, e2, e3⟩ := HL.out.1.below D2.out.1
  have hpl := (HL.out.1.below D2.out.1).lt
  have q0 : ∀ y : In (Abv w2), y.u.cell? ⟨p, 0, none⟩ = some (.int .i64 l.s) := fun y => (y.is.cell (p := ⟨p, 0, none⟩) hpl).trans e0
  have q1 : ∀ y : In (Abv w2), y.u.cell? ⟨p, 1, none⟩ = some (.int .i64 l.n) := fun y => (y.is.cell (p := ⟨p, 1, none⟩) hpl).trans e1
  have q2 : ∀ y : In (Abv w2), y.u.cell? ⟨p, 2, none⟩ = some (.int .i64 l.f) := fun y => (y.is.cell (p := ⟨p, 2, none⟩) hpl).trans e2
  have q3 : ∀ y : In (Abv w2), y.u.cell? ⟨p, 3, none⟩ = some (.int .i64 l.z) := fun y => (y.is.cell (p := ⟨p, 3, none⟩) hpl).trans e3
  go_wp2_with fail
  refine wp_region_mix (by kernel_rfl) (Cls (Abv w2)) ((0, 0) :: (1, 0) :: (2, 0) :: (3, 0) :: (5, 0) :: (6, 0) :: (4, 1) :: (7, 1) :: (8, 0) :: (9, 0) :: (10, 0) :: (11, 0) :: (12, 0) :: (14, 0) :: (15, 0) :: (13, 1) :: (16, 1) :: (17, 0) :: (18, 0) :: (19, 0) :: (20, 0) :: (21, 0) :: (22, 0) :: (24, 0) :: (25, 0) :: (26, 0) :: (23, 1) :: (27, 1) :: (28, 0) :: (29, 0) :: (30, 0) :: []) (by kernel_rfl) (cls (Below.refl _ _).drew) ?_
  have D3 : Hid (Below w2.heap.size w2 w2.drew) := Lib.hid (Below.refl _ _).drew
  repeat (refine mix0 rfl (fun K hK => ?_); go_simp; refine hK _ ?_; clear hK K)
  refine mix1 rfl (fun K hK => ?_)
  go_simp
  refine (SRight_any l A2 n2 c2 M w2.drew (D2.out.2.below D3.out) Hml.out).mono ?_
  rw [HR.out]
  rintro e u0 ⟨rfl, bb⟩
  have E0 : Hid (Below w2.heap.size w2 u0) := Lib.hid (bnext D3.out bb)
  refine ⟨_, rfl, hK _ _ (cls E0.out) ?_⟩
  clear hK K bb
  repeat (refine mix0 rfl (fun K hK => ?_); go_simp; refine hK _ ?_; clear hK K)
  refine mix1 rfl (fun K hK => ?_)
  go_simp
  refine (YRight_any l A2 n2 c2 M u0 (D2.out.2.below E0.out) Hml.out).mono ?_
  rw [HR.out]
  rintro e u1 ⟨rfl, bb⟩
  have E1 : Hid (Below w2.heap.size w2 u1) := Lib.hid (bnext E0.out bb)
  refine ⟨_, rfl, hK _ _ (cls E1.out) ?_⟩
  clear hK K bb
  repeat (refine mix0 rfl (fun K hK => ?_); go_simp; refine hK _ ?_; clear hK K)
  refine mix1 rfl (fun K hK => ?_)
  go_simp
  refine (SFree_any l A2 n2 c2 M u1 (D2.out.2.below E1.out) Hml.out).mono ?_
  rw [HF.out]
  rintro e u2 ⟨rfl, bb⟩
  have E2 : Hid (Below w2.heap.size w2 u2) := Lib.hid (bnext E1.out bb)
  refine ⟨_, rfl, hK _ _ (cls E2.out) ?_⟩
  clear hK K bb
  repeat (refine mix0 rfl (fun K hK => ?_); go_simp; refine hK _ ?_; clear hK K)
  refine mix1 rfl (fun K hK => ?_)
  go_simp
  refine (YFree_any l A2 n2 c2 M u2 (D2.out.2.below E2.out) Hml.out).mono ?_
  rw [HF.out]
  rintro e u3 ⟨rfl, bb⟩
  have E3 : Hid (Below w2.heap.size w2 u3) := Lib.hid (bnext E2.out bb)
  refine ⟨_, rfl, hK _ _ (cls E3.out) ?_⟩
  clear hK K bb
  repeat (refine mix0 rfl (fun K hK => ?_); go_simp; refine hK _ ?_; clear hK K)
  refine mix1 rfl (fun K hK => ?_)
  go_simp
  refine (STaken_any l A2 n2 c2 M x hx u3 (D2.out.2.below E3.out) Hml.out).mono ?_
  rw [HT.out]
  rintro e u4 ⟨rfl, bb⟩
  have E4 : Hid (Below w2.heap.size w2 u4) := Lib.hid (bnext E3.out bb)
  refine ⟨_, rfl, hK _ _ (cls E4.out) ?_⟩
  clear hK K bb
  repeat (refine mix0 rfl (fun K hK => ?_); go_simp; refine hK _ ?_; clear hK K)
  refine mix1 rfl (fun K hK => ?_)
  go_simp
  refine (YTaken_any l A2 n2 c2 M x hx u4 (D2.out.2.below E4.out) Hml.out).mono ?_
  rw [HT.out]
  rintro e u5 ⟨rfl, bb⟩
  have E5 : Hid (Below w2.heap.size w2 u5) := Lib.hid (bnext E4.out bb)
  refine ⟨_, rfl, hK _ _ (cls E5.out) ?_⟩
  clear hK K bb
  repeat (refine mix0 rfl (fun K hK => ?_); go_simp; refine hK _ ?_; clear hK K)
  refine mixEnd ?_
  clear q0 q1 q2 q3
  go_wp2
  go_ret
  exact ⟨ret_bool (by first | rfl | simp), bnext HL.out.2 (bnext D2.out.1 E5.out)⟩
theorem own : ownKnob Try.prog.godebug = none := by kernel_rfl
theorem laidOut : laidOutB Try.prog = true := by kernel_rfl
set_option maxRecDepth 100000 in
theorem lifted (os : Os) (started : os.Started) (H : Type) (enc : TypeId × Value → H) :
    ReturnsInHanded {} Try.checked os 3 .any (Rows.spaceTellsSpec.pre6 enc Try.prog Try.f3 Rows.spaceTellsRow.domain false) (Rows.spaceTellsSpec.post enc Try.prog Try.f3 false true false false) := by
  refine returnsInHanded_of_change (C := Try.checked) own started (by kernel_rfl) Try.func3
    (ChangeSpec.witness6 (enc := enc) (C := Try.checked) false ⟨#[], #[.agg #[.int .i64 0, .int .i64 0, .int .i64 0, .int .i64 0], .slice none 0 0, .int .i64 0], []⟩ 8 (by kernel_rfl) (by kernel_rfl) (by kernel_rfl) (by kernel_rfl)) ?_
  intro W base args ds gs before hval0 hW hcnd _
  have hval : ∀ (j : Nat) t v, Try.f3.params[j]? = some t → args[j]? = some v → Value.okWide Try.prog W .any base t v := hval0
  have hW' := hW
  obtain ⟨p, q, hA0, hV, rfl, hfz, hnd⟩ := hW
  have hA : DataW.TrodAll enc Try.prog W 0 (fun _ => true) true Try.f3.params.toList args.toList ds p := hA0
  rw [Try.params3] at hA hval
  obtain ⟨v0, vs0, d0, ds0, p0, q0, hargs, rfl, rfl, h0, r0⟩ := trodAll_cons hA
  obtain ⟨v1, vs1, d1, ds1, p1, q1, rfl, rfl, rfl, h1, r1⟩ := trodAll_cons r0
  obtain ⟨v2, vs2, d2, ds2, p2, q2, rfl, rfl, rfl, h2, r2⟩ := trodAll_cons r1
  obtain ⟨rfl, rfl, rfl⟩ := trodAll_nil r2
  obtain rfl : args = #[v0, v1, v2] := by cases args; simp_all
  obtain ⟨a0, rfl, w0⟩ := open_layout (hval 0 23 v0 rfl rfl) h0
  obtain ⟨x1, len1, cap1, a1, rfl, w1⟩ := opens_strs Try.underlying24 Try.underlying9 (by kernel_rfl) (hval 1 24 v1 rfl rfl) h1
  obtain ⟨a2, rfl, rfl, rfl, w2⟩ := open_int Try.underlying3 (hval 2 3 v2 rfl rfl) h2
  clear hA0 hval0
  refine (walk a0 x1 len1 cap1 a1 a2 W w0 w1 w2).mono fun e W' ⟨he, bel⟩ => ?_
  subst he
  exact ⟨_, rfl, law_post laidOut (by rw [Try.params3]; decide +kernel) rfl Try.underlying4 rfl hW' (fun _ => rfl) bel⟩
theorem over : Rows.spaceTellsRow.holds Try.pinned (OpenSpec.ofChange Rows.spaceTellsSpec) :=
  OpenClaim.holds_of_wide 3 Try.f3 rfl rfl rfl rfl rfl rfl rfl ⟨rfl, rfl, rfl, rfl, rfl⟩ rfl rfl rfl rfl rfl (by kernel_rfl) Try.func3 (by kernel_rfl)
    (of_decide_eq_true (by kernel_rfl)) (by unfold Func.isWrapper; first | (rw [if_pos (by decide +kernel)]; kernel_rfl) | (rw [if_neg (by decide +kernel)]; exact ⟨rfl, rfl⟩))
    (fun os started H enc _ => lifted os started H enc)
theorem proved : Rows.SpaceTellsSaid := over
end Go.Proofs.Ytidclmhlmnhbkaa.spaceTells
