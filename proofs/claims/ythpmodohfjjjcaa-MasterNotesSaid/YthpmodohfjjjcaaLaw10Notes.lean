/- Notes are written, any bytes read, and resources given to members by the program as by the document; what was written is read again. -/
import Derived.Test.YthpmodohfjjjcaaRows
import Derived.Test.YthpmodohfjjjcaaAw10
import Derived.Test.YthpmodohfjjjcaaNy10
import Derived.Deep.DeepCutAuto
namespace Go.Proofs.Ythpmodohfjjjcaa.masterNotes
open Go.RowKit Go.ChangeShapes Go.WideShapes Go.ChangeAt
open Go.ChangeMaps (open_string shut_string)

set_option maxRecDepth 100000 in
set_option maxHeartbeats 4000000 in
theorem walk (n : Nt) (s : List UInt8) (x2 : Option Addr) (len2 cap2 : Nat) (l2 : List Int) (w : World) (_ : s.length ≤ maxLen) (h2 : IsInts .i64 w x2 len2 l2) (hc2 : len2 ≤ cap2) :
    Calls Try.prog 3 #[ntV n, .string (str s), .slice x2 len2 cap2] w fun e w' => e = .returned (.bool true) ∧ Below w.heap.size w w' := by
  have H2 := Lib.hid h2
  clear h2
  obtain ⟨W, HW⟩ : ∃ x, Hid (w.alloc (.cells #[.int .i64 n.kind, .int .i64 n.epoch, .int .i64 n.res, .int .i64 n.mode, .int .i64 n.seq] 23) = x) := ⟨_, Lib.hid rfl⟩
  have HB : Hid (Below w.heap.size w W) := Lib.hid (by rw [← HW.out]; exact balloc (Below.refl _ _) _)
  have HN : Hid (NtAt W w.heap.size n) := Lib.hid (by rw [← HW.out]; exact NtAt.new w n _)
  obtain ⟨p, Hp⟩ : ∃ x, Hid (w.heap.size = x) := ⟨_, Lib.hid rfl⟩
  rw [Hp.out] at HN
  go_enter Try.func3, Try.ntmps3
  go_wp2_with fail
  rw [HW.out, Hp.out]
  refine (awake10_any W).mono ?_
  rintro e w1 ⟨rfl, hb1⟩
  have B1 := Lib.hid (bnext HB.out hb1)
  have N1 := Lib.hid (HN.out.below hb1)
  clear hb1 HB HN HW
  go_upto_if 21 with fail
  go_cut [1] (fun u wx => ∃ t : List UInt8, t.length ≤ 60 ∧ u = .string (str t) ∧ wx = w1)
  case first =>
    by_cases hlt : 60 < s.length
    · have hI : (60 : Int) < (s.length : Int) := by omega
      go_wp2_with fail
      go_meet
      case rel => exact ⟨s.take 60, by simp; omega, rfl, rfl⟩
    · have hI : ¬ (60 : Int) < (s.length : Int) := by omega
      go_wp2_with fail
      go_meet
      case rel => exact ⟨s, by omega, rfl, rfl⟩
  case rest =>
  obtain ⟨t, ht, rfl, rfl⟩ := hcut
  go_upto_if 26 with fail
  go_cut [2] (fun u wx => ∃ (A : Option Addr) (m c : Nat) (l : List Int), u = .slice A m c ∧ Hid (IsInts .i64 w A m l) ∧ wx = wc)
  case first =>
    by_cases hlt : 12 < len2
    · have hI : (12 : Int) < (len2 : Int) := by omega
      have hI2 : (12 : Int) ≤ (cap2 : Int) := by omega
      obtain ⟨g, off, e, _⟩ := H2.out.cells (by omega)
      have H3 : Hid (IsInts .i64 w x2 12 (l2.take 12)) := Lib.hid (ints_take H2.out (by omega))
      subst e
      go_wp2_with fail
      go_meet
      case rel => exact ⟨_, 12, cap2, _, rfl, H3, rfl⟩
    · have hI : ¬ (12 : Int) < (len2 : Int) := by omega
      go_wp2_with fail
      go_meet
      case rel => exact ⟨_, _, _, _, rfl, H2, rfl⟩
  case rest =>
  obtain ⟨A, m, c, l, rfl, HI, rfl⟩ := hcut
  clear H2 hc2
  have c0 := N1.out.c0
  have c1 := N1.out.c1
  have c2 := N1.out.c2
  have c3 := N1.out.c3
  have c4 := N1.out.c4
  go_wp2_with fail
  clear c0 c1 c2 c3 c4
  refine (mBytes_any n _).mono ?_
  obtain ⟨BV, HBV⟩ : ∃ x, Hid (bytesV n = x) := ⟨_, Lib.hid rfl⟩
  obtain ⟨BE, HBE⟩ : ∃ x, Hid (bytesE n = x) := ⟨_, Lib.hid rfl⟩
  rw [HBV.out, HBE.out]
  rintro e w2 ⟨rfl, hb2⟩
  have B2 := Lib.hid (bnext B1.out hb2)
  have N2 := Lib.hid (N1.out.below hb2)
  clear hb2
  have c0 := N2.out.c0
  have c1 := N2.out.c1
  have c2 := N2.out.c2
  have c3 := N2.out.c3
  have c4 := N2.out.c4
  go_wp2_with fail
  clear c0 c1 c2 c3 c4
  refine (xBytes_any n _).mono ?_
  rw [HBV.out, HBE.out]
  rintro e w3 ⟨rfl, hb3⟩
  have B3 := Lib.hid (bnext B2.out hb3)
  have N3 := Lib.hid (N2.out.below hb3)
  clear hb3
  go_wp2_with fail
  refine (mRead_any t _).mono ?_
  obtain ⟨T, HT⟩ : ∃ x, Hid (readN t = x) := ⟨_, Lib.hid rfl⟩
  obtain ⟨TE, HTE⟩ : ∃ x, Hid (readE t = x) := ⟨_, Lib.hid rfl⟩
  rw [HT.out, HTE.out, ntV_def]
  rintro e w4 ⟨rfl, hb4⟩
  have B4 := Lib.hid (bnext B3.out hb4)
  have N4 := Lib.hid (N3.out.below hb4)
  clear hb4
  obtain ⟨w5, HW5⟩ : ∃ x, Hid (w4.alloc (.cells #[.int .i64 T.kind, .int .i64 T.epoch, .int .i64 T.res, .int .i64 T.mode, .int .i64 T.seq] 23) = x) := ⟨_, Lib.hid rfl⟩
  obtain ⟨p5, Hp5⟩ : ∃ x, Hid (w4.heap.size = x) := ⟨_, Lib.hid rfl⟩
  have M5 : Hid (Below w4.heap.size w4 w5) := Lib.hid (by rw [← HW5.out]; exact balloc (Below.refl _ _) _)
  have B5 := Lib.hid (bnext B4.out M5.out)
  have N5 := Lib.hid (N4.out.below M5.out)
  have T5 : Hid (NtAt w5 p5 T) := Lib.hid (by rw [← HW5.out, ← Hp5.out]; exact NtAt.new w4 T _)
  go_wp2_with fail
  rw [HW5.out, Hp5.out]
  refine (xRead_any t (by omega) _).mono ?_
  rw [HT.out, HTE.out, ntV_def]
  rintro e w6 ⟨rfl, hb6⟩
  have B6 := Lib.hid (bnext B5.out hb6)
  have N6 := Lib.hid (N5.out.below hb6)
  have T6 := Lib.hid (T5.out.below hb6)
  clear hb6
  obtain ⟨w7, HW7⟩ : ∃ x, Hid (w6.alloc (.cells #[.int .i64 T.kind, .int .i64 T.epoch, .int .i64 T.res, .int .i64 T.mode, .int .i64 T.seq] 23) = x) := ⟨_, Lib.hid rfl⟩
  obtain ⟨p7, Hp7⟩ : ∃ x, Hid (w6.heap.size = x) := ⟨_, Lib.hid rfl⟩
  have M7 : Hid (Below w6.heap.size w6 w7) := Lib.hid (by rw [← HW7.out]; exact balloc (Below.refl _ _) _)
  have B7 := Lib.hid (bnext B6.out M7.out)
  have N7 := Lib.hid (N6.out.below M7.out)
  have T7 := Lib.hid (T6.out.below M7.out)
  have U7 : Hid (NtAt w7 p7 T) := Lib.hid (by rw [← HW7.out, ← Hp7.out]; exact NtAt.new w6 T _)
  go_wp2_with fail
  rw [HW7.out, Hp7.out]
  refine (mRead_any BV _).mono ?_
  obtain ⟨R, HR⟩ : ∃ x, Hid (readN BV = x) := ⟨_, Lib.hid rfl⟩
  obtain ⟨RE, HRE⟩ : ∃ x, Hid (readE BV = x) := ⟨_, Lib.hid rfl⟩
  rw [HR.out, HRE.out, ntV_def]
  rintro e w8 ⟨rfl, hb8⟩
  have B8 := Lib.hid (bnext B7.out hb8)
  have N8 := Lib.hid (N7.out.below hb8)
  have T8 := Lib.hid (T7.out.below hb8)
  have U8 := Lib.hid (U7.out.below hb8)
  clear hb8
  obtain ⟨w9, HW9⟩ : ∃ x, Hid (w8.alloc (.cells #[.int .i64 R.kind, .int .i64 R.epoch, .int .i64 R.res, .int .i64 R.mode, .int .i64 R.seq] 23) = x) := ⟨_, Lib.hid rfl⟩
  obtain ⟨p9, Hp9⟩ : ∃ x, Hid (w8.heap.size = x) := ⟨_, Lib.hid rfl⟩
  have M9 : Hid (Below w8.heap.size w8 w9) := Lib.hid (by rw [← HW9.out]; exact balloc (Below.refl _ _) _)
  have B9 := Lib.hid (bnext B8.out M9.out)
  have N9 := Lib.hid (N8.out.below M9.out)
  have T9 := Lib.hid (T8.out.below M9.out)
  have U9 := Lib.hid (U8.out.below M9.out)
  have R9 : Hid (NtAt w9 p9 R) := Lib.hid (by rw [← HW9.out, ← Hp9.out]; exact NtAt.new w8 R _)
  go_upto_region 11 with fail
  rw [HW9.out, Hp9.out]
  clear N1 N2 N3 N4 N5 N6 N7 N8 T5 T6 T7 T8 U7 U8 M5 M7 M9 HW5 HW7 HW9 Hp5 Hp7 Hp9 B1 B2 B3 B4 B5 B6 B7 B8
  have heq := ntEq
  obtain ⟨ov, Hov⟩ : ∃ x, Hid (ofV n.res m l = x) := ⟨_, Lib.hid rfl⟩
  have hI9 : Hid (∀ u, Below w9.heap.size w9 u → IsInts .i64 u A m l) := Lib.hid (fun u hu => ints_below HI.out (bnext B9.out hu))
  have q0 : ∀ y : In (Abv w9), y.u.cell? ⟨p, 0, none⟩ = some (.int .i64 n.kind) := fun y => (N9.out.below y.is).c0
  have q1 : ∀ y : In (Abv w9), y.u.cell? ⟨p, 1, none⟩ = some (.int .i64 n.epoch) := fun y => (N9.out.below y.is).c1
  have q2 : ∀ y : In (Abv w9), y.u.cell? ⟨p, 2, none⟩ = some (.int .i64 n.res) := fun y => (N9.out.below y.is).c2
  have q3 : ∀ y : In (Abv w9), y.u.cell? ⟨p, 3, none⟩ = some (.int .i64 n.mode) := fun y => (N9.out.below y.is).c3
  have q4 : ∀ y : In (Abv w9), y.u.cell? ⟨p, 4, none⟩ = some (.int .i64 n.seq) := fun y => (N9.out.below y.is).c4
  have q5 : ∀ y : In (Abv w9), y.u.cell? ⟨p5, 0, none⟩ = some (.int .i64 T.kind) := fun y => (T9.out.below y.is).c0
  have q6 : ∀ y : In (Abv w9), y.u.cell? ⟨p5, 1, none⟩ = some (.int .i64 T.epoch) := fun y => (T9.out.below y.is).c1
  have q7 : ∀ y : In (Abv w9), y.u.cell? ⟨p5, 2, none⟩ = some (.int .i64 T.res) := fun y => (T9.out.below y.is).c2
  have q8 : ∀ y : In (Abv w9), y.u.cell? ⟨p5, 3, none⟩ = some (.int .i64 T.mode) := fun y => (T9.out.below y.is).c3
  have q9 : ∀ y : In (Abv w9), y.u.cell? ⟨p5, 4, none⟩ = some (.int .i64 T.seq) := fun y => (T9.out.below y.is).c4
  have q10 : ∀ y : In (Abv w9), y.u.cell? ⟨p7, 0, none⟩ = some (.int .i64 T.kind) := fun y => (U9.out.below y.is).c0
  have q11 : ∀ y : In (Abv w9), y.u.cell? ⟨p7, 1, none⟩ = some (.int .i64 T.epoch) := fun y => (U9.out.below y.is).c1
  have q12 : ∀ y : In (Abv w9), y.u.cell? ⟨p7, 2, none⟩ = some (.int .i64 T.res) := fun y => (U9.out.below y.is).c2
  have q13 : ∀ y : In (Abv w9), y.u.cell? ⟨p7, 3, none⟩ = some (.int .i64 T.mode) := fun y => (U9.out.below y.is).c3
  have q14 : ∀ y : In (Abv w9), y.u.cell? ⟨p7, 4, none⟩ = some (.int .i64 T.seq) := fun y => (U9.out.below y.is).c4
  have q15 : ∀ y : In (Abv w9), y.u.cell? ⟨p9, 0, none⟩ = some (.int .i64 R.kind) := fun y => (R9.out.below y.is).c0
  have q16 : ∀ y : In (Abv w9), y.u.cell? ⟨p9, 1, none⟩ = some (.int .i64 R.epoch) := fun y => (R9.out.below y.is).c1
  have q17 : ∀ y : In (Abv w9), y.u.cell? ⟨p9, 2, none⟩ = some (.int .i64 R.res) := fun y => (R9.out.below y.is).c2
  have q18 : ∀ y : In (Abv w9), y.u.cell? ⟨p9, 3, none⟩ = some (.int .i64 R.mode) := fun y => (R9.out.below y.is).c3
  have q19 : ∀ y : In (Abv w9), y.u.cell? ⟨p9, 4, none⟩ = some (.int .i64 R.seq) := fun y => (R9.out.below y.is).c4
  cases hm : mayB n
  · have hBE : BE = 1 := by rw [← HBE.out, bytesE, hm]; rfl
    subst hBE
    clear hm HBE
    refine wp_region_mix (by kernel_rfl) (Cls (Abv w9)) [(0, 0), (1, 0), (2, 0), (3, 0), (4, 0), (5, 0), (6, 0), (7, 0), (8, 0), (9, 0), (10, 0), (11, 0), (12, 0), (13, 0), (14, 0), (15, 0), (16, 0), (17, 0), (18, 0), (19, 0), (20, 0), (21, 0), (22, 0), (23, 0), (24, 0), (25, 0), (26, 0), (27, 0), (28, 0), (29, 0), (30, 0), (31, 0), (32, 0), (33, 0), (34, 0), (35, 0), (36, 0), (37, 0), (39, 0), (40, 0), (41, 0), (38, 1), (42, 1), (43, 0), (44, 0), (45, 0)] (by kernel_rfl) (cls (Below.refl _ w9).drew) ?_
    have D0 : Hid (Below w9.heap.size w9 w9.drew) := Lib.hid (Below.refl _ w9).drew
    repeat (refine mix0 rfl (fun K hK => ?_); go_simp; refine hK _ ?_; clear hK K)
    refine mix1 rfl (fun K hK => ?_)
    go_simp
    refine (mOf_any _ A m c l _ (hI9.out _ D0.out)).mono ?_
    rw [Hov.out]
    rintro e wa ⟨rfl, rfl⟩
    refine ⟨_, rfl, hK _ _ (cls D0.out) ?_⟩
    clear hK K
    refine mix1 rfl (fun K hK => ?_)
    go_simp
    refine (xOf_any _ A m c l _ (hI9.out _ D0.out)).mono ?_
    rw [Hov.out]
    rintro e wb ⟨rfl, rfl⟩
    refine ⟨_, rfl, hK _ _ (cls D0.out) ?_⟩
    clear hK K
    repeat (refine mix0 rfl (fun K hK => ?_); go_simp; refine hK _ ?_; clear hK K)
    refine mixEnd ?_
    go_wp2
    go_ret
    exact ⟨by simp, bnext B9.out D0.out⟩
  · have hBE : BE = 0 := by rw [← HBE.out, bytesE, hm]; rfl
    have hBV : BV = bytesN n := by rw [← HBV.out, bytesV, hm]; rfl
    obtain ⟨hok, hraw⟩ := read_bytesN hm
    have hRE : RE = 0 := by rw [← HRE.out, hBV, readE, hok]; rfl
    have hRn : R = n := by rw [← HR.out, hBV, readN, hok]; exact hraw
    subst hBE hRE hRn
    clear hm HBE hBV hok hraw
    refine wp_region_mix (by kernel_rfl) (Cls (Abv w9)) [(0, 0), (1, 0), (2, 0), (3, 0), (4, 0), (5, 0), (6, 0), (7, 0), (8, 0), (9, 0), (10, 0), (11, 0), (12, 0), (13, 0), (14, 0), (15, 0), (16, 0), (17, 0), (18, 0), (19, 0), (20, 0), (21, 0), (22, 0), (23, 0), (24, 0), (25, 0), (26, 0), (27, 0), (28, 0), (29, 0), (30, 0), (31, 0), (32, 0), (33, 0), (34, 0), (35, 0), (36, 0), (37, 0), (39, 0), (40, 0), (41, 0), (38, 1), (42, 1), (43, 0), (44, 0), (45, 0)] (by kernel_rfl) (cls (Below.refl _ w9).drew) ?_
    have D0 : Hid (Below w9.heap.size w9 w9.drew) := Lib.hid (Below.refl _ w9).drew
    repeat (refine mix0 rfl (fun K hK => ?_); go_simp; refine hK _ ?_; clear hK K)
    refine mix1 rfl (fun K hK => ?_)
    go_simp
    refine (mOf_any _ A m c l _ (hI9.out _ D0.out)).mono ?_
    rw [Hov.out]
    rintro e wa ⟨rfl, rfl⟩
    refine ⟨_, rfl, hK _ _ (cls D0.out) ?_⟩
    clear hK K
    refine mix1 rfl (fun K hK => ?_)
    go_simp
    refine (xOf_any _ A m c l _ (hI9.out _ D0.out)).mono ?_
    rw [Hov.out]
    rintro e wb ⟨rfl, rfl⟩
    refine ⟨_, rfl, hK _ _ (cls D0.out) ?_⟩
    clear hK K
    repeat (refine mix0 rfl (fun K hK => ?_); go_simp; refine hK _ ?_; clear hK K)
    refine mixEnd ?_
    go_wp2
    go_ret
    exact ⟨by simp, bnext B9.out D0.out⟩
theorem own : ownKnob Try.prog.godebug = none := by kernel_rfl
theorem laidOut : laidOutB Try.prog = true := by kernel_rfl
set_option maxRecDepth 100000 in
theorem lifted (os : Os) (started : os.Started) (H : Type) (enc : TypeId × Value → H) :
    ReturnsInHanded {} Try.checked os 3 .any (Rows.masterNotesSpec.pre6 enc Try.prog Try.f3 Rows.masterNotesRow.domain false) (Rows.masterNotesSpec.post enc Try.prog Try.f3 false true false false) := by
  refine returnsInHanded_of_change (C := Try.checked) own started (by kernel_rfl) Try.func3
    (ChangeSpec.witness6 (enc := enc) (C := Try.checked) false ⟨#[], #[.agg #[.int .i64 0, .int .i64 0, .int .i64 0, .int .i64 0, .int .i64 0], .string ByteArray.empty, .slice none 0 0], []⟩ 8 (by kernel_rfl) (by kernel_rfl) (by kernel_rfl) (by kernel_rfl)) ?_
  intro W base args ds gs before hval0 hW hcnd _
  have hval : ∀ (j : Nat) t v, Try.f3.params[j]? = some t → args[j]? = some v → Value.okWide Try.prog W .any base t v := hval0
  have hW' := hW
  obtain ⟨p, q, hA0, hV, rfl, hfz, hnd⟩ := hW
  have hA : DataW.TrodAll enc Try.prog W 0 (fun _ => true) true Try.f3.params.toList args.toList ds p := hA0
  rw [Try.params3] at hA hval
  obtain ⟨v0, vs0, d0, ds0, p0, q0, hargs, rfl, rfl, h0, r0⟩ := trodAll_cons hA
  obtain ⟨v1, vs1, d1, ds1, p1, q1, rfl, rfl, rfl, h1, r1⟩ := trodAll_cons r0
  obtain ⟨v2, vs2, d2, ds2, p2, q2, rfl, rfl, rfl, h2, r2⟩ := trodAll_cons r1
  obtain ⟨rfl, rfl, rfl⟩ := trodAll_nil r2
  obtain rfl : args = #[v0, v1, v2] := by cases args; simp_all
  obtain ⟨a0, rfl⟩ := open_note (hval 0 23 v0 rfl rfl) h0
  obtain ⟨s1, rfl, rfl, rfl, w1⟩ := open_string Try.underlying9 (hval 1 9 v1 rfl rfl) h1
  obtain ⟨a1, rfl⟩ := str_of s1
  rw [str_size] at w1
  obtain ⟨x2, len2, cap2, a2, rfl, w2, y2⟩ := opens_intsc Try.underlying24 Try.underlying3 (by kernel_rfl) (hval 2 24 v2 rfl rfl) h2
  clear hA0 hval0
  refine (walk a0 a1 x2 len2 cap2 a2 W  w1 w2 y2).mono fun e W' ⟨he, bel⟩ => ?_
  subst he
  exact ⟨_, rfl, law_post laidOut (by rw [Try.params3]; decide +kernel) rfl Try.underlying4 rfl hW' (fun _ => rfl) bel⟩
theorem over : Rows.masterNotesRow.holds Try.pinned (OpenSpec.ofChange Rows.masterNotesSpec) :=
  OpenClaim.holds_of_wide 3 Try.f3 rfl rfl rfl rfl rfl rfl rfl ⟨rfl, rfl, rfl, rfl, rfl⟩ rfl rfl rfl rfl rfl (by kernel_rfl) Try.func3 (by kernel_rfl)
    (of_decide_eq_true (by kernel_rfl)) (by unfold Func.isWrapper; first | (rw [if_pos (by decide +kernel)]; kernel_rfl) | (rw [if_neg (by decide +kernel)]; exact ⟨rfl, rfl⟩))
    (fun os started H enc _ => lifted os started H enc)
theorem proved : Rows.MasterNotesSaid := over
end Go.Proofs.Ythpmodohfjjjcaa.masterNotes
