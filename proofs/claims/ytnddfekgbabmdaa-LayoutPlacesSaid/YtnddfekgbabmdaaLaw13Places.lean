/- Where things lie is as the document says: LayoutPlaces. -/
import Derived.Test.YtnddfekgbabmdaaRows
import Derived.Test.YtnddfekgbabmdaaAw13

namespace Go.Proofs.Ytnddfekgbabmdaa.layoutPlaces
open Go.RowKit Go.ChangeShapes Go.WideShapes Go.ChangeAt
open Go.ChangeMaps (open_string shut_string)

set_option maxRecDepth 100000 in
set_option maxHeartbeats 4000000 in
theorem walk (l : Lay) (q0 q1 q2 : Int) (w : World) (_ : (Lit.int .i64 l.s).wf = true ∧ (Lit.int .i64 l.n).wf = true ∧ (Lit.int .i64 l.f).wf = true ∧ (Lit.int .i64 l.z).wf = true) (_ : (Lit.int .i64 q0).wf = true) (_ : (Lit.int .i64 q1).wf = true) (hw2 : (Lit.int .i64 q2).wf = true) :
    Calls Try.prog 4 #[l.v, .agg #[.int .i64 q0, .int .i64 q1, .int .i64 q2]] w fun e w' => e = .returned (.bool true) ∧ Below w.heap.size w w' := by
  have Hw2 := Lib.hid hw2
  clear hw2
  obtain ⟨J, HJ⟩ : ∃ x, Hid (layJ l q0 = x) := ⟨_, Lib.hid rfl⟩
  obtain ⟨P, HP⟩ : ∃ x, Hid (layP l q1 0 = x) := ⟨_, Lib.hid rfl⟩
  obtain ⟨R, HR⟩ : ∃ x, Hid (layP l q1 1 = x) := ⟨_, Lib.hid rfl⟩
  obtain ⟨Z1, HZ1⟩ : ∃ x, Hid ((layZP l q2).1 = x) := ⟨_, Lib.hid rfl⟩
  obtain ⟨Z2, HZ2⟩ : ∃ x, Hid ((layZP l q2).2 = x) := ⟨_, Lib.hid rfl⟩
  obtain ⟨MM, HMM⟩ : ∃ x, Hid (layM l = x) := ⟨_, Lib.hid rfl⟩
  obtain ⟨RM, HRM⟩ : ∃ x, Hid (layR l = x) := ⟨_, Lib.hid rfl⟩
  have HPR : Hid ((0 ≤ P ∧ P ≤ 100000 ∧ R = P + 1) ∨ (P = -1 ∧ R = -1)) := Lib.hid (by
    rw [← HP.out, ← HR.out]
    by_cases h : layOk l = true ∧ 0 ≤ q1 ∧ q1 < 4
    · left
      rw [layP, layP, if_pos h, if_pos h]
      obtain ⟨hk, h0, h1⟩ := h
      obtain ⟨k, rfl⟩ := Int.eq_ofNat_of_zero_le h0
      have := mul_bds (LayOk.of hk) (z := k) (by omega)
      have := (LayOk.of hk).fb
      omega
    · right
      rw [layP, layP, if_neg h, if_neg h]
      exact ⟨rfl, rfl⟩)
  obtain ⟨b0, Hb0⟩ : ∃ b, Hid (w.heap.size = b) := ⟨_, Lib.hid rfl⟩
  obtain ⟨V, HV⟩ : ∃ x, Hid ((w.alloc (.cells #[.int .i64 l.s, .int .i64 l.n, .int .i64 l.f, .int .i64 l.z] 24)).alloc (.cells #[.int .i64 q0, .int .i64 q1, .int .i64 q2] 33) = x) := ⟨_, Lib.hid rfl⟩
  have BB0 : Hid (Below w.heap.size w V) := Lib.hid (by rw [← HV.out]; exact balloc (balloc (Below.refl _ w) _) _)
  have HL0 : Hid (LayAt V b0 l) := Lib.hid (by rw [← HV.out, ← Hb0.out]; exact ⟨by go_simp, by go_simp, by go_simp, by go_simp⟩)
  have HQ0 : Hid (I3 V (b0 + 1) q0 q1 q2) := Lib.hid (by rw [← HV.out, ← Hb0.out]; exact ⟨by go_simp, by go_simp, by go_simp⟩)
  have hV := HV.out
  have hb0 := Hb0.out
  rw [Lay.v]
  go_enter Try.func4, Try.ntmps4
  go_wp2_with fail
  refine (awk13_any _).mono ?_
  rintro e x1 ⟨rfl, hb⟩
  have BB1 : Hid (Below w.heap.size w x1) := Lib.hid (bnext BB0.out hb)
  have HL1 := Lib.hid (HL0.out.below hb)
  have HQ1 := Lib.hid (HQ0.out.below hb)
  clear  hb hV hb0
  have ltL := HL1.out.lt
  obtain ⟨cL0, cL1, cL2, cL3⟩ := HL1.out
  have ltQ := HQ1.out.lt
  obtain ⟨cQ0, cQ1, cQ2⟩ := HQ1.out
  have mL0 : ∀ y : In (Abv x1), y.u.cell? ⟨b0, 0, none⟩ = some (.int .i64 l.s) := fun y => (HL1.out.below y.is).c0
  have mL1 : ∀ y : In (Abv x1), y.u.cell? ⟨b0, 1, none⟩ = some (.int .i64 l.n) := fun y => (HL1.out.below y.is).c1
  have mL2 : ∀ y : In (Abv x1), y.u.cell? ⟨b0, 2, none⟩ = some (.int .i64 l.f) := fun y => (HL1.out.below y.is).c2
  have mL3 : ∀ y : In (Abv x1), y.u.cell? ⟨b0, 3, none⟩ = some (.int .i64 l.z) := fun y => (HL1.out.below y.is).c3
  have mQ0 : ∀ y : In (Abv x1), y.u.cell? ⟨b0 + 1, 0, none⟩ = some (.int .i64 q0) := fun y => (HQ1.out.below y.is).c0
  have mQ1 : ∀ y : In (Abv x1), y.u.cell? ⟨b0 + 1, 1, none⟩ = some (.int .i64 q1) := fun y => (HQ1.out.below y.is).c1
  have mQ2 : ∀ y : In (Abv x1), y.u.cell? ⟨b0 + 1, 2, none⟩ = some (.int .i64 q2) := fun y => (HQ1.out.below y.is).c2
  go_wp2_with fail
  clear ltL cL0 cL1 cL2 cL3 ltQ cQ0 cQ1 cQ2 
  refine wp_region_mix (by kernel_rfl) (Cls (Abv x1)) [(0, 0), (1, 0), (2, 0), (4, 0), (5, 0), (6, 0), (3, 1), (7, 1), (8, 0), (9, 0), (10, 0), (11, 0), (12, 0), (14, 0), (15, 0), (16, 0), (13, 1), (17, 1), (18, 0), (19, 0), (20, 0)] (by kernel_rfl) (cls (Below.refl _ x1).drew) ?_
  have hdr : Hid (Below x1.heap.size x1 x1.drew) := Lib.hid (Below.refl _ x1).drew
  repeat (refine mix0 rfl (fun K hK => ?_); go_simp; refine hK _ ?_; clear hK K)
  refine mix1 rfl (fun K hK => ?_)
  go_simp
  refine (Journal_any l _ _).mono ?_
  rw [HJ.out]
  rintro e x2 ⟨rfl, hb⟩
  have D2 : Hid (Below x1.heap.size x1 x2) := Lib.hid (bnext hdr.out hb)
  clear hb
  refine ⟨_, rfl, hK _ _ (cls D2.out) ?_⟩
  clear hK K
  refine mix1 rfl (fun K hK => ?_)
  go_simp
  refine (XJournal_any l _ _).mono ?_
  rw [HJ.out]
  rintro e x3 ⟨rfl, hb⟩
  have D3 : Hid (Below x1.heap.size x1 x3) := Lib.hid (bnext D2.out hb)
  clear hb
  refine ⟨_, rfl, hK _ _ (cls D3.out) ?_⟩
  clear hK K
  repeat (refine mix0 rfl (fun K hK => ?_); go_simp; refine hK _ ?_; clear hK K)
  refine mix1 rfl (fun K hK => ?_)
  go_simp
  refine (Begin_any l _ _).mono ?_
  rw [HP.out]
  rintro e x4 ⟨rfl, hb⟩
  have D4 : Hid (Below x1.heap.size x1 x4) := Lib.hid (bnext D3.out hb)
  clear hb
  refine ⟨_, rfl, hK _ _ (cls D4.out) ?_⟩
  clear hK K
  refine mix1 rfl (fun K hK => ?_)
  go_simp
  refine (XBegin_any l _ _).mono ?_
  rw [HP.out]
  rintro e x5 ⟨rfl, hb⟩
  have D5 : Hid (Below x1.heap.size x1 x5) := Lib.hid (bnext D4.out hb)
  clear hb
  refine ⟨_, rfl, hK _ _ (cls D5.out) ?_⟩
  clear hK K
  repeat (refine mix0 rfl (fun K hK => ?_); go_simp; refine hK _ ?_; clear hK K)
  refine mixEnd ?_
  clear mL0 mL1 mL2 mL3 mQ0 mQ1 mQ2
  have BB5 : Hid (Below w.heap.size w x5) := Lib.hid (bnext BB1.out D5.out)
  have HL5 := Lib.hid (HL1.out.below D5.out)
  have HQ5 := Lib.hid (HQ1.out.below D5.out)
  have ltL := HL5.out.lt
  obtain ⟨cL0, cL1, cL2, cL3⟩ := HL5.out
  have ltQ := HQ5.out.lt
  obtain ⟨cQ0, cQ1, cQ2⟩ := HQ5.out
  go_wp2_with fail
  refine (XBegin_any l _ _).mono ?_
  rw [HP.out]
  rintro e x6 ⟨rfl, hb⟩
  have BB6 : Hid (Below w.heap.size w x6) := Lib.hid (bnext BB5.out hb)
  have HL6 := Lib.hid (HL5.out.below hb)
  have HQ6 := Lib.hid (HQ5.out.below hb)
  clear ltL cL0 cL1 cL2 cL3 ltQ cQ0 cQ1 cQ2 hb
  go_upto_if 35 with fail
  go_cut [7] (fun s wx => s = .int .i64 R ∧ wx = x6)
  case first =>
    rcases HPR.out with ⟨h0, h1, h2⟩ | ⟨h0, h1⟩
    · subst h2
      have hw : IntKind.i64.wrap (P + 1) = P + 1 := IntWalk.i64_in _ (by omega)
      go_wp2_with fail
      go_meet
      case rel => exact ⟨rfl, rfl⟩
    · have h2 : P < 0 := by omega
      have h3 : R = P := by omega
      clear h0 h1
      subst h3
      go_wp2_with fail
      go_meet
      case rel => exact ⟨rfl, rfl⟩
  case rest =>
  obtain ⟨rfl, hwc⟩ := hcut
  subst hwc
  have ltL := HL6.out.lt
  obtain ⟨cL0, cL1, cL2, cL3⟩ := HL6.out
  have ltQ := HQ6.out.lt
  obtain ⟨cQ0, cQ1, cQ2⟩ := HQ6.out
  have mL0 : ∀ y : In (Abv wc), y.u.cell? ⟨b0, 0, none⟩ = some (.int .i64 l.s) := fun y => (HL6.out.below y.is).c0
  have mL1 : ∀ y : In (Abv wc), y.u.cell? ⟨b0, 1, none⟩ = some (.int .i64 l.n) := fun y => (HL6.out.below y.is).c1
  have mL2 : ∀ y : In (Abv wc), y.u.cell? ⟨b0, 2, none⟩ = some (.int .i64 l.f) := fun y => (HL6.out.below y.is).c2
  have mL3 : ∀ y : In (Abv wc), y.u.cell? ⟨b0, 3, none⟩ = some (.int .i64 l.z) := fun y => (HL6.out.below y.is).c3
  have mQ0 : ∀ y : In (Abv wc), y.u.cell? ⟨b0 + 1, 0, none⟩ = some (.int .i64 q0) := fun y => (HQ6.out.below y.is).c0
  have mQ1 : ∀ y : In (Abv wc), y.u.cell? ⟨b0 + 1, 1, none⟩ = some (.int .i64 q1) := fun y => (HQ6.out.below y.is).c1
  have mQ2 : ∀ y : In (Abv wc), y.u.cell? ⟨b0 + 1, 2, none⟩ = some (.int .i64 q2) := fun y => (HQ6.out.below y.is).c2
  go_wp2_with fail
  clear ltL cL0 cL1 cL2 cL3 ltQ cQ0 cQ1 cQ2 
  refine wp_region_mix (by kernel_rfl) (Cls (Abv wc)) [(0, 0), (1, 0), (2, 0), (4, 0), (3, 1), (5, 0), (6, 0), (7, 0), (8, 0), (9, 0), (11, 0), (12, 0), (13, 0), (10, 1), (14, 1), (15, 0), (16, 0), (17, 0), (18, 0), (19, 0), (20, 0), (22, 0), (23, 0), (24, 0), (21, 1), (25, 1), (26, 0), (27, 0), (28, 0)] (by kernel_rfl) (cls (Below.refl _ wc).drew) ?_
  have hdr : Hid (Below wc.heap.size wc wc.drew) := Lib.hid (Below.refl _ wc).drew
  repeat (refine mix0 rfl (fun K hK => ?_); go_simp; refine hK _ ?_; clear hK K)
  refine mix1 rfl (fun K hK => ?_)
  go_simp
  refine (Root_any l _ _).mono ?_
  rw [HR.out]
  rintro e x7 ⟨rfl, hb⟩
  have D7 : Hid (Below wc.heap.size wc x7) := Lib.hid (bnext hdr.out hb)
  clear hb
  refine ⟨_, rfl, hK _ _ (cls D7.out) ?_⟩
  clear hK K
  repeat (refine mix0 rfl (fun K hK => ?_); go_simp; refine hK _ ?_; clear hK K)
  refine mix1 rfl (fun K hK => ?_)
  go_simp
  refine (Zone_any l _ Hw2.out _).mono ?_
  rw [HZ1.out]
  rintro e x8 ⟨rfl, hb⟩
  have D8 : Hid (Below wc.heap.size wc x8) := Lib.hid (bnext D7.out hb)
  clear hb
  refine ⟨_, rfl, hK _ _ (cls D8.out) ?_⟩
  clear hK K
  refine mix1 rfl (fun K hK => ?_)
  go_simp
  refine (XZone_any l _ Hw2.out _).mono ?_
  rw [HZ1.out]
  rintro e x9 ⟨rfl, hb⟩
  have D9 : Hid (Below wc.heap.size wc x9) := Lib.hid (bnext D8.out hb)
  clear hb
  refine ⟨_, rfl, hK _ _ (cls D9.out) ?_⟩
  clear hK K
  repeat (refine mix0 rfl (fun K hK => ?_); go_simp; refine hK _ ?_; clear hK K)
  refine mix1 rfl (fun K hK => ?_)
  go_simp
  refine (Place_any l _ Hw2.out _).mono ?_
  rw [HZ2.out]
  rintro e x10 ⟨rfl, hb⟩
  have D10 : Hid (Below wc.heap.size wc x10) := Lib.hid (bnext D9.out hb)
  clear hb
  refine ⟨_, rfl, hK _ _ (cls D10.out) ?_⟩
  clear hK K
  refine mix1 rfl (fun K hK => ?_)
  go_simp
  refine (XPlace_any l _ Hw2.out _).mono ?_
  rw [HZ2.out]
  rintro e x11 ⟨rfl, hb⟩
  have D11 : Hid (Below wc.heap.size wc x11) := Lib.hid (bnext D10.out hb)
  clear hb
  refine ⟨_, rfl, hK _ _ (cls D11.out) ?_⟩
  clear hK K
  repeat (refine mix0 rfl (fun K hK => ?_); go_simp; refine hK _ ?_; clear hK K)
  refine mixEnd ?_
  clear mL0 mL1 mL2 mL3 mQ0 mQ1 mQ2
  have BB11 : Hid (Below w.heap.size w x11) := Lib.hid (bnext BB6.out D11.out)
  have HL11 := Lib.hid (HL6.out.below D11.out)
  have HQ11 := Lib.hid (HQ6.out.below D11.out)
  have ltL := HL11.out.lt
  obtain ⟨cL0, cL1, cL2, cL3⟩ := HL11.out
  have ltQ := HQ11.out.lt
  obtain ⟨cQ0, cQ1, cQ2⟩ := HQ11.out
  have mL0 : ∀ y : In (Abv x11), y.u.cell? ⟨b0, 0, none⟩ = some (.int .i64 l.s) := fun y => (HL11.out.below y.is).c0
  have mL1 : ∀ y : In (Abv x11), y.u.cell? ⟨b0, 1, none⟩ = some (.int .i64 l.n) := fun y => (HL11.out.below y.is).c1
  have mL2 : ∀ y : In (Abv x11), y.u.cell? ⟨b0, 2, none⟩ = some (.int .i64 l.f) := fun y => (HL11.out.below y.is).c2
  have mL3 : ∀ y : In (Abv x11), y.u.cell? ⟨b0, 3, none⟩ = some (.int .i64 l.z) := fun y => (HL11.out.below y.is).c3
  have mQ0 : ∀ y : In (Abv x11), y.u.cell? ⟨b0 + 1, 0, none⟩ = some (.int .i64 q0) := fun y => (HQ11.out.below y.is).c0
  have mQ1 : ∀ y : In (Abv x11), y.u.cell? ⟨b0 + 1, 1, none⟩ = some (.int .i64 q1) := fun y => (HQ11.out.below y.is).c1
  have mQ2 : ∀ y : In (Abv x11), y.u.cell? ⟨b0 + 1, 2, none⟩ = some (.int .i64 q2) := fun y => (HQ11.out.below y.is).c2
  go_wp2_with fail
  clear ltL cL0 cL1 cL2 cL3 ltQ cQ0 cQ1 cQ2 
  refine wp_region_mix (by kernel_rfl) (Cls (Abv x11)) [(0, 0), (1, 0), (2, 0), (3, 0), (4, 0), (5, 0), (6, 0), (7, 0), (8, 0), (10, 0), (9, 1), (11, 1), (12, 0), (13, 0), (14, 0), (15, 0), (17, 0), (16, 1), (18, 1), (19, 0), (20, 0), (21, 0)] (by kernel_rfl) (cls (Below.refl _ x11).drew) ?_
  have hdr : Hid (Below x11.heap.size x11 x11.drew) := Lib.hid (Below.refl _ x11).drew
  repeat (refine mix0 rfl (fun K hK => ?_); go_simp; refine hK _ ?_; clear hK K)
  refine mix1 rfl (fun K hK => ?_)
  go_simp
  refine (LMap_any l _).mono ?_
  rw [HMM.out]
  rintro e x12 ⟨rfl, hb⟩
  have D12 : Hid (Below x11.heap.size x11 x12) := Lib.hid (bnext hdr.out hb)
  clear hb
  refine ⟨_, rfl, hK _ _ (cls D12.out) ?_⟩
  clear hK K
  refine mix1 rfl (fun K hK => ?_)
  go_simp
  refine (XLMap_any l _).mono ?_
  rw [HMM.out]
  rintro e x13 ⟨rfl, hb⟩
  have D13 : Hid (Below x11.heap.size x11 x13) := Lib.hid (bnext D12.out hb)
  clear hb
  refine ⟨_, rfl, hK _ _ (cls D13.out) ?_⟩
  clear hK K
  repeat (refine mix0 rfl (fun K hK => ?_); go_simp; refine hK _ ?_; clear hK K)
  refine mix1 rfl (fun K hK => ?_)
  go_simp
  refine (Room_any l _).mono ?_
  rw [HRM.out]
  rintro e x14 ⟨rfl, hb⟩
  have D14 : Hid (Below x11.heap.size x11 x14) := Lib.hid (bnext D13.out hb)
  clear hb
  refine ⟨_, rfl, hK _ _ (cls D14.out) ?_⟩
  clear hK K
  refine mix1 rfl (fun K hK => ?_)
  go_simp
  refine (XRoom_any l _).mono ?_
  rw [HRM.out]
  rintro e x15 ⟨rfl, hb⟩
  have D15 : Hid (Below x11.heap.size x11 x15) := Lib.hid (bnext D14.out hb)
  clear hb
  refine ⟨_, rfl, hK _ _ (cls D15.out) ?_⟩
  clear hK K
  repeat (refine mix0 rfl (fun K hK => ?_); go_simp; refine hK _ ?_; clear hK K)
  refine mixEnd ?_
  clear mL0 mL1 mL2 mL3 mQ0 mQ1 mQ2
  have BB15 : Hid (Below w.heap.size w x15) := Lib.hid (bnext BB11.out D15.out)
  have HL15 := Lib.hid (HL11.out.below D15.out)
  have HQ15 := Lib.hid (HQ11.out.below D15.out)
  go_wp2
  go_ret
  exact ⟨rfl, BB15.out⟩
theorem own : ownKnob Try.prog.godebug = none := by kernel_rfl
theorem laidOut : laidOutB Try.prog = true := by kernel_rfl
set_option maxRecDepth 100000 in
theorem lifted (os : Os) (started : os.Started) (H : Type) (enc : TypeId × Value → H) :
    ReturnsInHanded {} Try.checked os 4 .any (Rows.layoutPlacesSpec.pre6 enc Try.prog Try.f4 Rows.layoutPlacesRow.domain false) (Rows.layoutPlacesSpec.post enc Try.prog Try.f4 false true false false) := by
  refine returnsInHanded_of_change (C := Try.checked) own started (by kernel_rfl) Try.func4
    (ChangeSpec.witness6 (enc := enc) (C := Try.checked) false ⟨#[], #[.agg #[.int .i64 0, .int .i64 0, .int .i64 0, .int .i64 0], .agg #[.int .i64 0, .int .i64 0, .int .i64 0]], []⟩ 8 (by kernel_rfl) (by kernel_rfl) (by kernel_rfl) (by kernel_rfl)) ?_
  intro W base args ds gs before hval0 hW hcnd _
  have hval : ∀ (j : Nat) t v, Try.f4.params[j]? = some t → args[j]? = some v → Value.okWide Try.prog W .any base t v := hval0
  have hW' := hW
  obtain ⟨p, q, hA0, hV, rfl, hfz, hnd⟩ := hW
  have hA : DataW.TrodAll enc Try.prog W 0 (fun _ => true) true Try.f4.params.toList args.toList ds p := hA0
  rw [Try.params4] at hA hval
  obtain ⟨v0, vs0, d0, ds0, p0, q0, hargs, rfl, rfl, h0, r0⟩ := trodAll_cons hA
  obtain ⟨v1, vs1, d1, ds1, p1, q1, rfl, rfl, rfl, h1, r1⟩ := trodAll_cons r0
  obtain ⟨rfl, rfl, rfl⟩ := trodAll_nil r1
  obtain rfl : args = #[v0, v1] := by cases args; simp_all
  obtain ⟨a0, rfl, w0⟩ := open_layout (hval 0 24 v0 rfl rfl) h0
  obtain ⟨a1, b1, c1, rfl, w1, y1, z1⟩ := opens_int3 Try.underlying33 (by kernel_rfl) (by kernel_rfl) Try.underlying3 (hval 1 33 v1 rfl rfl) h1
  clear hA0 hval0
  refine (walk a0 a1 b1 c1 W w0 w1 y1 z1).mono fun e W' ⟨he, bel⟩ => ?_
  subst he
  exact ⟨_, rfl, law_post laidOut (by rw [Try.params4]; decide +kernel) rfl Try.underlying4 rfl hW' (fun _ => rfl) bel⟩
theorem over : Rows.layoutPlacesRow.holds Try.pinned (OpenSpec.ofChange Rows.layoutPlacesSpec) :=
  OpenClaim.holds_of_wide 4 Try.f4 rfl rfl rfl rfl rfl rfl rfl ⟨rfl, rfl, rfl, rfl, rfl⟩ rfl rfl rfl rfl rfl (by kernel_rfl) Try.func4 (by kernel_rfl)
    (of_decide_eq_true (by kernel_rfl)) (by unfold Func.isWrapper; first | (rw [if_pos (by decide +kernel)]; kernel_rfl) | (rw [if_neg (by decide +kernel)]; exact ⟨rfl, rfl⟩))
    (fun os started H enc _ => lifted os started H enc)
theorem proved : Rows.LayoutPlacesSaid := over
end Go.Proofs.Ytnddfekgbabmdaa.layoutPlaces
