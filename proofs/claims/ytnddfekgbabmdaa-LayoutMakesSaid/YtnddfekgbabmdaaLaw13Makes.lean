/- Layouts are made, written and read as the document says; what was written is read again: LayoutMakes. -/
import Derived.Test.YtnddfekgbabmdaaRows
import Derived.Test.YtnddfekgbabmdaaAw13

namespace Go.Proofs.Ytnddfekgbabmdaa.layoutMakes
open Go.RowKit Go.ChangeShapes Go.WideShapes Go.ChangeAt
open Go.ChangeMaps (open_string shut_string)

set_option maxRecDepth 100000 in
set_option maxHeartbeats 4000000 in
theorem walk (q0 q1 : Int) (l : Lay) (s0 : List UInt8) (w : World) (_ : (Lit.int .i64 q0).wf = true) (_ : (Lit.int .i64 q1).wf = true) (_ : (Lit.int .i64 l.s).wf = true ∧ (Lit.int .i64 l.n).wf = true ∧ (Lit.int .i64 l.f).wf = true ∧ (Lit.int .i64 l.z).wf = true) (_hs : s0.length ≤ maxLen) :
    Calls Try.prog 3 #[.agg #[.int .i64 q0, .int .i64 q1], l.v, .string (str s0)] w fun e w' => e = .returned (.bool true) ∧ Below w.heap.size w w' := by
  obtain ⟨A, HA⟩ : ∃ x, Hid (layN q0 q1 = x) := ⟨_, Lib.hid rfl⟩
  obtain ⟨E, HE⟩ : ∃ x, Hid (layE q0 q1 = x) := ⟨_, Lib.hid rfl⟩
  obtain ⟨T, HT⟩ : ∃ x, Hid (layB A = x) := ⟨_, Lib.hid rfl⟩
  obtain ⟨K, HK⟩ : ∃ x, Hid (layBE A = x) := ⟨_, Lib.hid rfl⟩
  obtain ⟨Z, HZ⟩ : ∃ x, Hid (rdL T = x) := ⟨_, Lib.hid rfl⟩
  obtain ⟨M, HM⟩ : ∃ x, Hid (rdE T = x) := ⟨_, Lib.hid rfl⟩
  have Hgood : Hid (E = 0 → K = 0 ∧ Z = A ∧ M = 0) := Lib.hid (fun h => by
    have hk : layOk A = true := by rw [← HA.out]; exact layOk_new (by rw [HE.out]; exact h)
    obtain ⟨r1, r2⟩ := rd_back (LayOk.of hk)
    rw [HT.out] at r1 r2
    exact ⟨by rw [← HK.out]; exact if_pos hk, by rw [← HZ.out, rdL, r1, r2]; rfl, by rw [← HM.out, rdE, r1]; rfl⟩)
  obtain ⟨LB, HLB⟩ : ∃ x, Hid (layB l = x) := ⟨_, Lib.hid rfl⟩
  obtain ⟨LE, HLE⟩ : ∃ x, Hid (layBE l = x) := ⟨_, Lib.hid rfl⟩
  obtain ⟨b0, Hb0⟩ : ∃ b, Hid (w.heap.size = b) := ⟨_, Lib.hid rfl⟩
  obtain ⟨V, HV⟩ : ∃ x, Hid ((w.alloc (.cells #[.int .i64 q0, .int .i64 q1] 22)).alloc (.cells #[.int .i64 l.s, .int .i64 l.n, .int .i64 l.f, .int .i64 l.z] 24) = x) := ⟨_, Lib.hid rfl⟩
  have BB0 : Hid (Below w.heap.size w V) := Lib.hid (by rw [← HV.out]; exact balloc (balloc (Below.refl _ w) _) _)
  have HQ0 : Hid (I2 V b0 q0 q1) := Lib.hid (by rw [← HV.out, ← Hb0.out]; exact ⟨by go_simp, by go_simp⟩)
  have HL0 : Hid (LayAt V (b0 + 1) l) := Lib.hid (by rw [← HV.out, ← Hb0.out]; exact ⟨by go_simp, by go_simp, by go_simp, by go_simp⟩)
  have hV := HV.out
  have hb0 := Hb0.out
  rw [Lay.v]
  go_enter Try.func3, Try.ntmps3
  go_wp2_with fail
  refine (awk13_any _).mono ?_
  rintro e x1 ⟨rfl, hb⟩
  have BB1 : Hid (Below w.heap.size w x1) := Lib.hid (bnext BB0.out hb)
  have HQ1 := Lib.hid (HQ0.out.below hb)
  have HL1 := Lib.hid (HL0.out.below hb)
  clear  hb hV hb0
  go_upto_if 27 with fail
  go_cut [2] (fun s wx => ∃ t : List UInt8, s = .string (str t) ∧ Hid (t = s0.take 30) ∧ wx = x1)
  case first =>
    by_cases hlen : 30 < s0.length
    · go_wp2_with fail
      go_meet
      case rel => exact ⟨s0.take 30, rfl, Lib.hid rfl, rfl⟩
    · go_wp2_with fail
      go_meet
      case rel => exact ⟨s0, rfl, Lib.hid (List.take_of_length_le (by omega)).symm, rfl⟩
  case rest =>
  obtain ⟨t, rfl, Ht, rfl⟩ := hcut
  obtain ⟨RL, HRL⟩ : ∃ x, Hid (rdL t = x) := ⟨_, Lib.hid rfl⟩
  obtain ⟨RE, HRE⟩ : ∃ x, Hid (rdE t = x) := ⟨_, Lib.hid rfl⟩
  have ltQ := HQ1.out.lt
  obtain ⟨cQ0, cQ1⟩ := HQ1.out
  have ltL := HL1.out.lt
  obtain ⟨cL0, cL1, cL2, cL3⟩ := HL1.out
  go_wp2_with fail
  refine (LNew_any _ _ _).mono ?_
  rw [HA.out, HE.out]
  rintro e x2 ⟨rfl, hb⟩
  have BB2 : Hid (Below w.heap.size w x2) := Lib.hid (bnext BB1.out hb)
  have HQ2 := Lib.hid (HQ1.out.below hb)
  have HL2 := Lib.hid (HL1.out.below hb)
  clear ltQ cQ0 cQ1 ltL cL0 cL1 cL2 cL3 hb
  obtain ⟨qA, HqA⟩ : ∃ q, Hid (x2.heap.size = q) := ⟨_, Lib.hid rfl⟩
  obtain ⟨WA, HWA⟩ : ∃ W, Hid (x2.alloc (.cells #[.int .i64 (A.s), .int .i64 (A.n), .int .i64 (A.f), .int .i64 (A.z)] 24) = W) := ⟨_, Lib.hid rfl⟩
  have hb : Below x2.heap.size x2 WA := by rw [← HWA.out]; exact balloc (Below.refl _ _) _
  have HQ3 := Lib.hid (HQ2.out.below hb)
  have HL3 := Lib.hid (HL2.out.below hb)
  have HA3 : Hid (LayAt WA qA A) := Lib.hid (by rw [← HWA.out, ← HqA.out]; exact ⟨by go_simp, by go_simp, by go_simp, by go_simp⟩)
  have BB3 : Hid (Below w.heap.size w WA) := Lib.hid (bnext BB2.out hb)
  clear hb
  have hWA := HWA.out
  have hqA := HqA.out
  have ltQ := HQ3.out.lt
  obtain ⟨cQ0, cQ1⟩ := HQ3.out
  have ltL := HL3.out.lt
  obtain ⟨cL0, cL1, cL2, cL3⟩ := HL3.out
  have ltA := HA3.out.lt
  obtain ⟨cA0, cA1, cA2, cA3⟩ := HA3.out
  go_wp2_with fail
  refine (XLNew_any _ _ _).mono ?_
  rw [HA.out, HE.out]
  rintro e x4 ⟨rfl, hb⟩
  have BB4 : Hid (Below w.heap.size w x4) := Lib.hid (bnext BB3.out hb)
  have HQ4 := Lib.hid (HQ3.out.below hb)
  have HL4 := Lib.hid (HL3.out.below hb)
  have HA4 := Lib.hid (HA3.out.below hb)
  clear ltQ cQ0 cQ1 ltL cL0 cL1 cL2 cL3 ltA cA0 cA1 cA2 cA3 hb hWA hqA
  obtain ⟨qB, HqB⟩ : ∃ q, Hid (x4.heap.size = q) := ⟨_, Lib.hid rfl⟩
  obtain ⟨WB, HWB⟩ : ∃ W, Hid (x4.alloc (.cells #[.int .i64 (A.s), .int .i64 (A.n), .int .i64 (A.f), .int .i64 (A.z)] 24) = W) := ⟨_, Lib.hid rfl⟩
  have hb : Below x4.heap.size x4 WB := by rw [← HWB.out]; exact balloc (Below.refl _ _) _
  have HQ5 := Lib.hid (HQ4.out.below hb)
  have HL5 := Lib.hid (HL4.out.below hb)
  have HA5 := Lib.hid (HA4.out.below hb)
  have HB5 : Hid (LayAt WB qB A) := Lib.hid (by rw [← HWB.out, ← HqB.out]; exact ⟨by go_simp, by go_simp, by go_simp, by go_simp⟩)
  have BB5 : Hid (Below w.heap.size w WB) := Lib.hid (bnext BB4.out hb)
  clear hb
  have hWB := HWB.out
  have hqB := HqB.out
  have ltQ := HQ5.out.lt
  obtain ⟨cQ0, cQ1⟩ := HQ5.out
  have ltL := HL5.out.lt
  obtain ⟨cL0, cL1, cL2, cL3⟩ := HL5.out
  have ltA := HA5.out.lt
  obtain ⟨cA0, cA1, cA2, cA3⟩ := HA5.out
  have ltB := HB5.out.lt
  obtain ⟨cB0, cB1, cB2, cB3⟩ := HB5.out
  go_wp2_with fail
  refine (LBytes_any _ _).mono ?_
  rw [HLB.out, HLE.out]
  rintro e x6 ⟨rfl, hb⟩
  have BB6 : Hid (Below w.heap.size w x6) := Lib.hid (bnext BB5.out hb)
  have HQ6 := Lib.hid (HQ5.out.below hb)
  have HL6 := Lib.hid (HL5.out.below hb)
  have HA6 := Lib.hid (HA5.out.below hb)
  have HB6 := Lib.hid (HB5.out.below hb)
  clear ltQ cQ0 cQ1 ltL cL0 cL1 cL2 cL3 ltA cA0 cA1 cA2 cA3 ltB cB0 cB1 cB2 cB3 hb hWB hqB
  have ltQ := HQ6.out.lt
  obtain ⟨cQ0, cQ1⟩ := HQ6.out
  have ltL := HL6.out.lt
  obtain ⟨cL0, cL1, cL2, cL3⟩ := HL6.out
  have ltA := HA6.out.lt
  obtain ⟨cA0, cA1, cA2, cA3⟩ := HA6.out
  have ltB := HB6.out.lt
  obtain ⟨cB0, cB1, cB2, cB3⟩ := HB6.out
  go_wp2_with fail
  refine (XLBytes_any _ _).mono ?_
  rw [HLB.out, HLE.out]
  rintro e x7 ⟨rfl, hb⟩
  have BB7 : Hid (Below w.heap.size w x7) := Lib.hid (bnext BB6.out hb)
  have HQ7 := Lib.hid (HQ6.out.below hb)
  have HL7 := Lib.hid (HL6.out.below hb)
  have HA7 := Lib.hid (HA6.out.below hb)
  have HB7 := Lib.hid (HB6.out.below hb)
  clear ltQ cQ0 cQ1 ltL cL0 cL1 cL2 cL3 ltA cA0 cA1 cA2 cA3 ltB cB0 cB1 cB2 cB3 hb
  have ltQ := HQ7.out.lt
  obtain ⟨cQ0, cQ1⟩ := HQ7.out
  have ltL := HL7.out.lt
  obtain ⟨cL0, cL1, cL2, cL3⟩ := HL7.out
  have ltA := HA7.out.lt
  obtain ⟨cA0, cA1, cA2, cA3⟩ := HA7.out
  have ltB := HB7.out.lt
  obtain ⟨cB0, cB1, cB2, cB3⟩ := HB7.out
  go_wp2_with fail
  refine (LRead_any _ _).mono ?_
  rw [HRL.out, HRE.out]
  rintro e x8 ⟨rfl, hb⟩
  have BB8 : Hid (Below w.heap.size w x8) := Lib.hid (bnext BB7.out hb)
  have HQ8 := Lib.hid (HQ7.out.below hb)
  have HL8 := Lib.hid (HL7.out.below hb)
  have HA8 := Lib.hid (HA7.out.below hb)
  have HB8 := Lib.hid (HB7.out.below hb)
  clear ltQ cQ0 cQ1 ltL cL0 cL1 cL2 cL3 ltA cA0 cA1 cA2 cA3 ltB cB0 cB1 cB2 cB3 hb
  obtain ⟨qX, HqX⟩ : ∃ q, Hid (x8.heap.size = q) := ⟨_, Lib.hid rfl⟩
  obtain ⟨WX, HWX⟩ : ∃ W, Hid (x8.alloc (.cells #[.int .i64 (RL.s), .int .i64 (RL.n), .int .i64 (RL.f), .int .i64 (RL.z)] 24) = W) := ⟨_, Lib.hid rfl⟩
  have hb : Below x8.heap.size x8 WX := by rw [← HWX.out]; exact balloc (Below.refl _ _) _
  have HQ9 := Lib.hid (HQ8.out.below hb)
  have HL9 := Lib.hid (HL8.out.below hb)
  have HA9 := Lib.hid (HA8.out.below hb)
  have HB9 := Lib.hid (HB8.out.below hb)
  have HX9 : Hid (LayAt WX qX RL) := Lib.hid (by rw [← HWX.out, ← HqX.out]; exact ⟨by go_simp, by go_simp, by go_simp, by go_simp⟩)
  have BB9 : Hid (Below w.heap.size w WX) := Lib.hid (bnext BB8.out hb)
  clear hb
  have hWX := HWX.out
  have hqX := HqX.out
  have ltQ := HQ9.out.lt
  obtain ⟨cQ0, cQ1⟩ := HQ9.out
  have ltL := HL9.out.lt
  obtain ⟨cL0, cL1, cL2, cL3⟩ := HL9.out
  have ltA := HA9.out.lt
  obtain ⟨cA0, cA1, cA2, cA3⟩ := HA9.out
  have ltB := HB9.out.lt
  obtain ⟨cB0, cB1, cB2, cB3⟩ := HB9.out
  have ltX := HX9.out.lt
  obtain ⟨cX0, cX1, cX2, cX3⟩ := HX9.out
  go_wp2_with fail
  refine (XLRead_any _ _).mono ?_
  rw [HRL.out, HRE.out]
  rintro e x10 ⟨rfl, hb⟩
  have BB10 : Hid (Below w.heap.size w x10) := Lib.hid (bnext BB9.out hb)
  have HQ10 := Lib.hid (HQ9.out.below hb)
  have HL10 := Lib.hid (HL9.out.below hb)
  have HA10 := Lib.hid (HA9.out.below hb)
  have HB10 := Lib.hid (HB9.out.below hb)
  have HX10 := Lib.hid (HX9.out.below hb)
  clear ltQ cQ0 cQ1 ltL cL0 cL1 cL2 cL3 ltA cA0 cA1 cA2 cA3 ltB cB0 cB1 cB2 cB3 ltX cX0 cX1 cX2 cX3 hb hWX hqX
  obtain ⟨qY, HqY⟩ : ∃ q, Hid (x10.heap.size = q) := ⟨_, Lib.hid rfl⟩
  obtain ⟨WY, HWY⟩ : ∃ W, Hid (x10.alloc (.cells #[.int .i64 (RL.s), .int .i64 (RL.n), .int .i64 (RL.f), .int .i64 (RL.z)] 24) = W) := ⟨_, Lib.hid rfl⟩
  have hb : Below x10.heap.size x10 WY := by rw [← HWY.out]; exact balloc (Below.refl _ _) _
  have HQ11 := Lib.hid (HQ10.out.below hb)
  have HL11 := Lib.hid (HL10.out.below hb)
  have HA11 := Lib.hid (HA10.out.below hb)
  have HB11 := Lib.hid (HB10.out.below hb)
  have HX11 := Lib.hid (HX10.out.below hb)
  have HY11 : Hid (LayAt WY qY RL) := Lib.hid (by rw [← HWY.out, ← HqY.out]; exact ⟨by go_simp, by go_simp, by go_simp, by go_simp⟩)
  have BB11 : Hid (Below w.heap.size w WY) := Lib.hid (bnext BB10.out hb)
  clear hb
  have hWY := HWY.out
  have hqY := HqY.out
  have ltQ := HQ11.out.lt
  obtain ⟨cQ0, cQ1⟩ := HQ11.out
  have ltL := HL11.out.lt
  obtain ⟨cL0, cL1, cL2, cL3⟩ := HL11.out
  have ltA := HA11.out.lt
  obtain ⟨cA0, cA1, cA2, cA3⟩ := HA11.out
  have ltB := HB11.out.lt
  obtain ⟨cB0, cB1, cB2, cB3⟩ := HB11.out
  have ltX := HX11.out.lt
  obtain ⟨cX0, cX1, cX2, cX3⟩ := HX11.out
  have ltY := HY11.out.lt
  obtain ⟨cY0, cY1, cY2, cY3⟩ := HY11.out
  go_wp2_with fail
  refine (LBytes_any _ _).mono ?_
  rw [HT.out, HK.out]
  rintro e x12 ⟨rfl, hb⟩
  have BB12 : Hid (Below w.heap.size w x12) := Lib.hid (bnext BB11.out hb)
  have HQ12 := Lib.hid (HQ11.out.below hb)
  have HL12 := Lib.hid (HL11.out.below hb)
  have HA12 := Lib.hid (HA11.out.below hb)
  have HB12 := Lib.hid (HB11.out.below hb)
  have HX12 := Lib.hid (HX11.out.below hb)
  have HY12 := Lib.hid (HY11.out.below hb)
  clear ltQ cQ0 cQ1 ltL cL0 cL1 cL2 cL3 ltA cA0 cA1 cA2 cA3 ltB cB0 cB1 cB2 cB3 ltX cX0 cX1 cX2 cX3 ltY cY0 cY1 cY2 cY3 hb hWY hqY
  have ltQ := HQ12.out.lt
  obtain ⟨cQ0, cQ1⟩ := HQ12.out
  have ltL := HL12.out.lt
  obtain ⟨cL0, cL1, cL2, cL3⟩ := HL12.out
  have ltA := HA12.out.lt
  obtain ⟨cA0, cA1, cA2, cA3⟩ := HA12.out
  have ltB := HB12.out.lt
  obtain ⟨cB0, cB1, cB2, cB3⟩ := HB12.out
  have ltX := HX12.out.lt
  obtain ⟨cX0, cX1, cX2, cX3⟩ := HX12.out
  have ltY := HY12.out.lt
  obtain ⟨cY0, cY1, cY2, cY3⟩ := HY12.out
  go_wp2_with fail
  refine (LRead_any _ _).mono ?_
  rw [HZ.out, HM.out]
  rintro e x13 ⟨rfl, hb⟩
  have BB13 : Hid (Below w.heap.size w x13) := Lib.hid (bnext BB12.out hb)
  have HQ13 := Lib.hid (HQ12.out.below hb)
  have HL13 := Lib.hid (HL12.out.below hb)
  have HA13 := Lib.hid (HA12.out.below hb)
  have HB13 := Lib.hid (HB12.out.below hb)
  have HX13 := Lib.hid (HX12.out.below hb)
  have HY13 := Lib.hid (HY12.out.below hb)
  clear ltQ cQ0 cQ1 ltL cL0 cL1 cL2 cL3 ltA cA0 cA1 cA2 cA3 ltB cB0 cB1 cB2 cB3 ltX cX0 cX1 cX2 cX3 ltY cY0 cY1 cY2 cY3 hb
  obtain ⟨qZ, HqZ⟩ : ∃ q, Hid (x13.heap.size = q) := ⟨_, Lib.hid rfl⟩
  obtain ⟨WZ, HWZ⟩ : ∃ W, Hid (x13.alloc (.cells #[.int .i64 (Z.s), .int .i64 (Z.n), .int .i64 (Z.f), .int .i64 (Z.z)] 24) = W) := ⟨_, Lib.hid rfl⟩
  have hb : Below x13.heap.size x13 WZ := by rw [← HWZ.out]; exact balloc (Below.refl _ _) _
  have HQ14 := Lib.hid (HQ13.out.below hb)
  have HL14 := Lib.hid (HL13.out.below hb)
  have HA14 := Lib.hid (HA13.out.below hb)
  have HB14 := Lib.hid (HB13.out.below hb)
  have HX14 := Lib.hid (HX13.out.below hb)
  have HY14 := Lib.hid (HY13.out.below hb)
  have HZ14 : Hid (LayAt WZ qZ Z) := Lib.hid (by rw [← HWZ.out, ← HqZ.out]; exact ⟨by go_simp, by go_simp, by go_simp, by go_simp⟩)
  have BB14 : Hid (Below w.heap.size w WZ) := Lib.hid (bnext BB13.out hb)
  clear hb
  have hWZ := HWZ.out
  have hqZ := HqZ.out
  have ltQ := HQ14.out.lt
  obtain ⟨cQ0, cQ1⟩ := HQ14.out
  have ltL := HL14.out.lt
  obtain ⟨cL0, cL1, cL2, cL3⟩ := HL14.out
  have ltA := HA14.out.lt
  obtain ⟨cA0, cA1, cA2, cA3⟩ := HA14.out
  have ltB := HB14.out.lt
  obtain ⟨cB0, cB1, cB2, cB3⟩ := HB14.out
  have ltX := HX14.out.lt
  obtain ⟨cX0, cX1, cX2, cX3⟩ := HX14.out
  have ltY := HY14.out.lt
  obtain ⟨cY0, cY1, cY2, cY3⟩ := HY14.out
  have ltZ := HZ14.out.lt
  obtain ⟨cZ0, cZ1, cZ2, cZ3⟩ := HZ14.out
  have eA := eq_same A
  have eR := eq_same RL
  by_cases hE : E = 0
  · obtain ⟨h1, h2, h3⟩ := Hgood.out hE
    subst h2 h1 h3 hE
    go_wp2
    go_ret
    exact ⟨rfl, BB14.out⟩
  · have hE2 : (E != 0) = true := by simp [hE]
    clear hE
    go_wp2
    go_ret
    exact ⟨rfl, BB14.out⟩
theorem own : ownKnob Try.prog.godebug = none := by kernel_rfl
theorem laidOut : laidOutB Try.prog = true := by kernel_rfl
set_option maxRecDepth 100000 in
theorem lifted (os : Os) (started : os.Started) (H : Type) (enc : TypeId × Value → H) :
    ReturnsInHanded {} Try.checked os 3 .any (Rows.layoutMakesSpec.pre6 enc Try.prog Try.f3 Rows.layoutMakesRow.domain false) (Rows.layoutMakesSpec.post enc Try.prog Try.f3 false true false false) := by
  refine returnsInHanded_of_change (C := Try.checked) own started (by kernel_rfl) Try.func3
    (ChangeSpec.witness6 (enc := enc) (C := Try.checked) false ⟨#[], #[.agg #[.int .i64 0, .int .i64 0], .agg #[.int .i64 0, .int .i64 0, .int .i64 0, .int .i64 0], .string ByteArray.empty], []⟩ 8 (by kernel_rfl) (by kernel_rfl) (by kernel_rfl) (by kernel_rfl)) ?_
  intro W base args ds gs before hval0 hW hcnd _
  have hval : ∀ (j : Nat) t v, Try.f3.params[j]? = some t → args[j]? = some v → Value.okWide Try.prog W .any base t v := hval0
  have hW' := hW
  obtain ⟨p, q, hA0, hV, rfl, hfz, hnd⟩ := hW
  have hA : DataW.TrodAll enc Try.prog W 0 (fun _ => true) true Try.f3.params.toList args.toList ds p := hA0
  rw [Try.params3] at hA hval
  obtain ⟨v0, vs0, d0, ds0, p0, q0, hargs, rfl, rfl, h0, r0⟩ := trodAll_cons hA
  obtain ⟨v1, vs1, d1, ds1, p1, q1, rfl, rfl, rfl, h1, r1⟩ := trodAll_cons r0
  obtain ⟨v2, vs2, d2, ds2, p2, q2, rfl, rfl, rfl, h2, r2⟩ := trodAll_cons r1
  obtain ⟨rfl, rfl, rfl⟩ := trodAll_nil r2
  obtain rfl : args = #[v0, v1, v2] := by cases args; simp_all
  obtain ⟨a0, b0, rfl, w0, y0⟩ := opens_int2 Try.underlying22 (by kernel_rfl) (by kernel_rfl) Try.underlying3 (hval 0 22 v0 rfl rfl) h0
  obtain ⟨a1, rfl, w1⟩ := open_layout (hval 1 24 v1 rfl rfl) h1
  obtain ⟨s2, rfl, rfl, rfl, w2⟩ := open_string Try.underlying9 (hval 2 9 v2 rfl rfl) h2
  obtain ⟨a2, rfl⟩ := str_of s2
  rw [str_size] at w2
  clear hA0 hval0
  refine (walk a0 b0 a1 a2 W w0 y0 w1 w2).mono fun e W' ⟨he, bel⟩ => ?_
  subst he
  exact ⟨_, rfl, law_post laidOut (by rw [Try.params3]; decide +kernel) rfl Try.underlying4 rfl hW' (fun _ => rfl) bel⟩
theorem over : Rows.layoutMakesRow.holds Try.pinned (OpenSpec.ofChange Rows.layoutMakesSpec) :=
  OpenClaim.holds_of_wide 3 Try.f3 rfl rfl rfl rfl rfl rfl rfl ⟨rfl, rfl, rfl, rfl, rfl⟩ rfl rfl rfl rfl rfl (by kernel_rfl) Try.func3 (by kernel_rfl)
    (of_decide_eq_true (by kernel_rfl)) (by unfold Func.isWrapper; first | (rw [if_pos (by decide +kernel)]; kernel_rfl) | (rw [if_neg (by decide +kernel)]; exact ⟨rfl, rfl⟩))
    (fun os started H enc _ => lifted os started H enc)
theorem proved : Rows.LayoutMakesSaid := over
end Go.Proofs.Ytnddfekgbabmdaa.layoutMakes
