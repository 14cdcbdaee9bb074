/- The note that is read of bytes by the program and by the document; who a resource is given to. -/
import Derived.Test.YthpmodohfjjjcaaNb10
namespace Go.Proofs.Ythpmodohfjjjcaa
open Go.RowKit

theorem endE_ne (l : List UInt8) (br : Bool) : (endE l br != 0) = !(endE l br == 0) := rfl
set_option maxRecDepth 100000 in
set_option maxHeartbeats 4000000 in
theorem mRead_any (s : List UInt8) (w : World) : Calls Try.prog 9 #[.string (str s)] w fun e w' => e = .returned (.tuple #[ntV (readN s), .int .i64 (readE s)]) ∧ Below w.heap.size w w' := by
  obtain ⟨RN, HRN⟩ : ∃ x, Hid (readN s = x) := ⟨_, Lib.hid rfl⟩
  obtain ⟨RE, HRE⟩ : ∃ x, Hid (readE s = x) := ⟨_, Lib.hid rfl⟩
  rw [HRN.out, HRE.out]
  obtain ⟨W, HW⟩ : ∃ x, Hid (w.alloc (.cells #[.int .i64 0, .int .i64 0, .int .i64 0, .int .i64 0, .int .i64 0] 23) = x) := ⟨_, Lib.hid rfl⟩
  obtain ⟨q, Hq⟩ : ∃ x, Hid (w.heap.size = x) := ⟨_, Lib.hid rfl⟩
  obtain ⟨V, HV⟩ : ∃ x, Hid (W.alloc (.cells #[.int .i64 0, .int .i64 0, .int .i64 0, .int .i64 0, .int .i64 0] 23) = x) := ⟨_, Lib.hid rfl⟩
  obtain ⟨p, Hp⟩ : ∃ x, Hid (W.heap.size = x) := ⟨_, Lib.hid rfl⟩
  have hpq : Hid (q + 1 = p) := Lib.hid (by rw [← Hp.out, ← HW.out, ← Hq.out]; simp)
  have BV : Hid (Below w.heap.size w V) := Lib.hid (by rw [← HV.out, ← HW.out]; exact balloc (balloc (Below.refl _ _) _) _)
  have NQ : Hid (NtF V q nt0) := Lib.hid (by rw [← HV.out]; exact (by rw [← HW.out, ← Hq.out]; exact NtF.new w nt0 _ : NtF W q nt0).below (balloc (Below.refl _ _) _))
  have NP : Hid (NtF V p nt0) := Lib.hid (by rw [← HV.out, ← Hp.out]; exact NtF.new W nt0 _)
  go_enter Try.func9, Try.ntmps9
  go_wp2_with fail
  rw [HW.out, HV.out, Hq.out, hpq.out]
  refine (PRead_any s V).mono ?_
  rintro e w1 ⟨rfl, hb1, hr1, hz1⟩
  obtain ⟨b, Hb⟩ : ∃ x, Hid (V.heap.size = x) := ⟨_, Lib.hid rfl⟩
  rw [Hb.out] at hr1 ⊢
  have hbq : Hid (q ≠ b) := Lib.hid (by have := NQ.out.is.lt; have := Hb.out; omega)
  have hbp : Hid (p ≠ b) := Lib.hid (by have := NP.out.is.lt; have := Hb.out; omega)
  have hqp : Hid (q ≠ p) := Lib.hid (by have := hpq.out; omega)
  have hwb : Hid (w.heap.size ≤ b) := Lib.hid (by have := BV.out.size; have := Hb.out; omega)
  have hwp : Hid (w.heap.size ≤ p) := Lib.hid (by have := hpq.out; have := Hq.out; omega)
  have R1 := Lib.hid hr1
  have Q1 := Lib.hid (NQ.out.below hb1)
  have P1 := Lib.hid (NP.out.below hb1)
  have B1 := Lib.hid (bnext BV.out hb1)
  clear hr1 hb1 hz1 NQ NP HW HV Hp
  go_wp2_with fail
  refine (RTwo_any b s false w1 R1.out).mono ?_
  rintro e w2 ⟨rfl, m2, r2⟩
  have R2 := Lib.hid r2
  have Q2 := Lib.hid (Q1.out.later m2 hbq.out)
  have P2 := Lib.hid (P1.out.later m2 hbp.out)
  have B2 := Lib.hid (bmod B1.out m2 hwb.out)
  clear m2 r2 R1 Q1 P1
  go_wp2_with fail
  refine (REight_any b _ _ 1099511627776 (by omega) (by omega) w2 R2.out).mono ?_
  rintro e w3 ⟨rfl, m3, r3⟩
  have R3 := Lib.hid r3
  have Q3 := Lib.hid (Q2.out.later m3 hbq.out)
  have P3 := Lib.hid (P2.out.later m3 hbp.out)
  have B3 := Lib.hid (bmod B2.out m3 hwb.out)
  clear m3 r3 R2 Q2 P2
  obtain ⟨k0, Hk0⟩ : ∃ x : Nat, Hid (textN s = x) := ⟨_, Lib.hid rfl⟩
  obtain ⟨k1, Hk1⟩ : ∃ x : Nat, Hid (eightV (takeL s 2) 1099511627776 = x) := ⟨_, Lib.hid rfl⟩
  rw [Hk0.out, Hk1.out]
  have d0 := P3.out.is.c0
  have d1 := P3.out.is.c1
  have f0 := P3.out.f0
  have f1 := P3.out.f1
  obtain ⟨w4, HW4⟩ : ∃ x, Hid ((w3.setCell ⟨p, 0, none⟩ (.int .i64 (k0 : Int))).setCell ⟨p, 1, none⟩ (.int .i64 (k1 : Int)) = x) := ⟨_, Lib.hid rfl⟩
  have P4 : Hid (NtF w4 p ⟨k0, k1, 0, 0, 0⟩) := Lib.hid (by rw [← HW4.out]; exact (P3.out.put0 _).put1 _)
  have M4 : Hid (Mod (· = p) w3 w4) := Lib.hid (by rw [← HW4.out]; exact ((Mod.refl _ w3).set1 _).set1 _)
  have Q4 := Lib.hid (Q3.out.later M4.out hqp.out)
  have R4 := Lib.hid (R3.out.later M4.out (fun e => hbp.out e.symm))
  have B4 := Lib.hid (bmod B3.out M4.out hwp.out)
  clear Q3 R3 B3 M4
  go_wp2_with fail
  rw [HW4.out]
  clear d0 d1 f0 f1 HW4 P3
  refine (RTwo_any b _ _ w4 R4.out).mono ?_
  rintro e w5 ⟨rfl, m5, r5⟩
  have R5 := Lib.hid r5
  have Q5 := Lib.hid (Q4.out.later m5 hbq.out)
  have P5 := Lib.hid (P4.out.later m5 hbp.out)
  have B5 := Lib.hid (bmod B4.out m5 hwb.out)
  clear m5 r5 R4 Q4 P4
  go_wp2_with fail
  refine (RTwo_any b _ _ w5 R5.out).mono ?_
  rintro e w6 ⟨rfl, m6, r6⟩
  have R6 := Lib.hid r6
  have Q6 := Lib.hid (Q5.out.later m6 hbq.out)
  have P6 := Lib.hid (P5.out.later m6 hbp.out)
  have B6 := Lib.hid (bmod B5.out m6 hwb.out)
  clear m6 r6 R5 Q5 P5
  go_wp2_with fail
  refine (REight_any b _ _ 1099511627776 (by omega) (by omega) w6 R6.out).mono ?_
  rintro e w7 ⟨rfl, m7, r7⟩
  have R7 : Hid (Rd w7 b (nL5 s) (nB5 s)) := Lib.hid r7
  have Q7 := Lib.hid (Q6.out.later m7 hbq.out)
  have P7 := Lib.hid (P6.out.later m7 hbp.out)
  have B7 := Lib.hid (bmod B6.out m7 hwb.out)
  clear m7 r7 R6 Q6 P6
  rw [show textN (eightL (takeL s 2) 1099511627776) = textN (nL2 s) from rfl, show textN (takeL (eightL (takeL s 2) 1099511627776) 2) = textN (nL3 s) from rfl, show eightV (takeL (takeL (eightL (takeL s 2) 1099511627776) 2) 2) 1099511627776 = eightV (nL4 s) 1099511627776 from rfl]
  obtain ⟨k2, Hk2⟩ : ∃ x : Nat, Hid (textN (nL2 s) = x) := ⟨_, Lib.hid rfl⟩
  obtain ⟨k3, Hk3⟩ : ∃ x : Nat, Hid (textN (nL3 s) = x) := ⟨_, Lib.hid rfl⟩
  obtain ⟨k4, Hk4⟩ : ∃ x : Nat, Hid (eightV (nL4 s) 1099511627776 = x) := ⟨_, Lib.hid rfl⟩
  rw [Hk2.out, Hk3.out, Hk4.out]
  have d2 := P7.out.is.c2
  have d3 := P7.out.is.c3
  have d4 := P7.out.is.c4
  have f2 := P7.out.f2
  have f3 := P7.out.f3
  have f4 := P7.out.f4
  obtain ⟨w8, HW8⟩ : ∃ x, Hid (((w7.setCell ⟨p, 2, none⟩ (.int .i64 (k2 : Int))).setCell ⟨p, 3, none⟩ (.int .i64 (k3 : Int))).setCell ⟨p, 4, none⟩ (.int .i64 (k4 : Int)) = x) := ⟨_, Lib.hid rfl⟩
  have P8 : Hid (NtF w8 p (rawN s)) := Lib.hid (by
    rw [← HW8.out, rawN, Hk0.out, Hk2.out, Hk3.out, Hk4.out, show eightV (nL1 s) 1099511627776 = k1 from Hk1.out]
    exact ((P7.out.put2 _).put3 _).put4 _)
  have M8 : Hid (Mod (· = p) w7 w8) := Lib.hid (by rw [← HW8.out]; exact (((Mod.refl _ w7).set1 _).set1 _).set1 _)
  have Q8 := Lib.hid (Q7.out.later M8.out hqp.out)
  have R8 := Lib.hid (R7.out.later M8.out (fun e => hbp.out e.symm))
  have B8 := Lib.hid (bmod B7.out M8.out hwp.out)
  clear Q7 R7 B7 M8
  go_wp2_with fail
  rw [HW8.out]
  clear d2 d3 d4 f2 f3 f4 HW8 P7 B1 B2 B4 B5 B6
  refine (End_any b _ _ w8 R8.out).mono ?_
  rintro e w9 ⟨rfl, rfl⟩
  obtain ⟨N, HN⟩ : ∃ x, Hid (rawN s = x) := ⟨_, Lib.hid rfl⟩
  rw [HN.out] at P8
  obtain ⟨E, HE⟩ : ∃ x, Hid (endE (nL5 s) (nB5 s) = x) := ⟨_, Lib.hid rfl⟩
  rw [HE.out]
  have g0 := P8.out.is.c0
  have g1 := P8.out.is.c1
  have g2 := P8.out.is.c2
  have g3 := P8.out.is.c3
  have g4 := P8.out.is.c4
  by_cases hE0 : E = 0
  · have hEb : (E != 0) = false := by simp [hE0]
    have HE0 := Lib.hid hE0
    clear hE0
    go_wp2_with fail
    refine (may_any w8 N).mono ?_
    obtain ⟨mb, Hmb⟩ : ∃ x, Hid (mayB N = x) := ⟨_, Lib.hid rfl⟩
    rw [Hmb.out]
    rintro e wa ⟨rfl, hba⟩
    have Qa := Lib.hid (Q8.out.below hba)
    have Pa := Lib.hid (P8.out.below hba)
    have Ba := Lib.hid (bnext B8.out hba)
    clear hba g0 g1 g2 g3 g4
    cases mb
    · have HR : Hid (RN = nt0 ∧ RE = 10) := Lib.hid (by rw [← HRN.out, ← HRE.out, readN, readE, okN, HE.out, HN.out, HE0.out, Hmb.out]; exact ⟨rfl, rfl⟩)
      obtain ⟨wz, HWz⟩ : ∃ x, Hid (setN wa q ⟨0, 0, 0, 0, 0⟩ = x) := ⟨_, Lib.hid rfl⟩
      have hwz := HWz.out
      unfold setN at hwz
      have d0 := Qa.out.is.c0
      have d1 := Qa.out.is.c1
      have d2 := Qa.out.is.c2
      have d3 := Qa.out.is.c3
      have d4 := Qa.out.is.c4
      have f0 := Qa.out.f0
      have f1 := Qa.out.f1
      have f2 := Qa.out.f2
      have f3 := Qa.out.f3
      have f4 := Qa.out.f4
      have NZ : Hid (NtAt wz q ⟨0, 0, 0, 0, 0⟩) := Lib.hid (by rw [← HWz.out]; exact (Qa.out.set _).is)
      have BZ : Hid (Below w.heap.size w wz) := Lib.hid (by rw [← HWz.out]; exact setN_below Ba.out (by have := Hq.out; omega) _)
      go_wp2_with fail
      have c0 := NZ.out.c0
      have c1 := NZ.out.c1
      have c2 := NZ.out.c2
      have c3 := NZ.out.c3
      have c4 := NZ.out.c4
      refine bodyPost_ret (v := .tuple #[ntV ⟨0, 0, 0, 0, 0⟩, .int .i64 10]) ?_ rfl ⟨?_, BZ.out⟩
      · rw [results_cell_tmp rfl]
        go_simp
      · rw [HR.out.1, HR.out.2] <;> rfl
    · have HR : Hid (RN = N ∧ RE = 0) := Lib.hid (by rw [← HRN.out, ← HRE.out, readN, readE, okN, HE.out, HN.out, HE0.out, Hmb.out]; exact ⟨rfl, rfl⟩)
      have g0 := Pa.out.is.c0
      have g1 := Pa.out.is.c1
      have g2 := Pa.out.is.c2
      have g3 := Pa.out.is.c3
      have g4 := Pa.out.is.c4
      obtain ⟨wz, HWz⟩ : ∃ x, Hid (setN wa q ⟨N.kind, N.epoch, N.res, N.mode, N.seq⟩ = x) := ⟨_, Lib.hid rfl⟩
      have hwz := HWz.out
      unfold setN at hwz
      have d0 := Qa.out.is.c0
      have d1 := Qa.out.is.c1
      have d2 := Qa.out.is.c2
      have d3 := Qa.out.is.c3
      have d4 := Qa.out.is.c4
      have f0 := Qa.out.f0
      have f1 := Qa.out.f1
      have f2 := Qa.out.f2
      have f3 := Qa.out.f3
      have f4 := Qa.out.f4
      have NZ : Hid (NtAt wz q ⟨N.kind, N.epoch, N.res, N.mode, N.seq⟩) := Lib.hid (by rw [← HWz.out]; exact (Qa.out.set _).is)
      have BZ : Hid (Below w.heap.size w wz) := Lib.hid (by rw [← HWz.out]; exact setN_below Ba.out (by have := Hq.out; omega) _)
      go_wp2_with fail
      have c0 := NZ.out.c0
      have c1 := NZ.out.c1
      have c2 := NZ.out.c2
      have c3 := NZ.out.c3
      have c4 := NZ.out.c4
      refine bodyPost_ret (v := .tuple #[ntV ⟨N.kind, N.epoch, N.res, N.mode, N.seq⟩, .int .i64 0]) ?_ rfl ⟨?_, BZ.out⟩
      · rw [results_cell_tmp rfl]
        go_simp
      · rw [HR.out.1, HR.out.2] <;> rfl
  · have hEb : (E != 0) = true := by simp [hE0]
    have hEf : Hid ((E == 0) = false) := Lib.hid (by simp [hE0])
    clear hE0 g0 g1 g2 g3 g4
    have HR : Hid (RN = nt0 ∧ RE = 10) := Lib.hid (by rw [← HRN.out, ← HRE.out, readN, readE, okN, HE.out, HN.out, hEf.out, Bool.false_and]; exact ⟨rfl, rfl⟩)
    obtain ⟨wz, HWz⟩ : ∃ x, Hid (setN w8 q ⟨0, 0, 0, 0, 0⟩ = x) := ⟨_, Lib.hid rfl⟩
    have hwz := HWz.out
    unfold setN at hwz
    have d0 := Q8.out.is.c0
    have d1 := Q8.out.is.c1
    have d2 := Q8.out.is.c2
    have d3 := Q8.out.is.c3
    have d4 := Q8.out.is.c4
    have f0 := Q8.out.f0
    have f1 := Q8.out.f1
    have f2 := Q8.out.f2
    have f3 := Q8.out.f3
    have f4 := Q8.out.f4
    have NZ : Hid (NtAt wz q ⟨0, 0, 0, 0, 0⟩) := Lib.hid (by rw [← HWz.out]; exact (Q8.out.set _).is)
    have BZ : Hid (Below w.heap.size w wz) := Lib.hid (by rw [← HWz.out]; exact setN_below B8.out (by have := Hq.out; omega) _)
    go_wp2_with fail
    have c0 := NZ.out.c0
    have c1 := NZ.out.c1
    have c2 := NZ.out.c2
    have c3 := NZ.out.c3
    have c4 := NZ.out.c4
    refine bodyPost_ret (v := .tuple #[ntV ⟨0, 0, 0, 0, 0⟩, .int .i64 10]) ?_ rfl ⟨?_, BZ.out⟩
    · rw [results_cell_tmp rfl]
      go_simp
    · rw [HR.out.1, HR.out.2] <;> rfl
theorem AR.made' (w : World) (S : List UInt8) (hs : S.length ≤ 100000) : AR (w.alloc (.cells #[.string (str S), .int .i64 0, .bool false] 80)) w.heap.size S false :=
  ⟨S, 0, ⟨by simp [go_sem], by simp [go_sem], by simp [go_sem], by simp [go_sem], by simp [go_sem]⟩, Nat.zero_le _, by omega, by simp⟩
theorem AR.lt2 {w : World} {c : Nat} {l : List UInt8} {br : Bool} (h : AR w c l br) : c < w.heap.size := by
  obtain ⟨S, n, hx, _⟩ := h
  exact hx.lt
set_option maxRecDepth 100000 in
set_option maxHeartbeats 4000000 in
theorem xRead_any (s : List UInt8) (hs : s.length ≤ 100000) (w : World) : Calls Try.prog 10 #[.string (str s)] w fun e w' => e = .returned (.tuple #[ntV (readN s), .int .i64 (readE s)]) ∧ Below w.heap.size w w' := by
  obtain ⟨RN, HRN⟩ : ∃ x, Hid (readN s = x) := ⟨_, Lib.hid rfl⟩
  obtain ⟨RE, HRE⟩ : ∃ x, Hid (readE s = x) := ⟨_, Lib.hid rfl⟩
  rw [HRN.out, HRE.out]
  obtain ⟨W, HW⟩ : ∃ x, Hid (w.alloc (.cells #[.int .i64 0, .int .i64 0, .int .i64 0, .int .i64 0, .int .i64 0] 23) = x) := ⟨_, Lib.hid rfl⟩
  obtain ⟨q, Hq⟩ : ∃ x, Hid (w.heap.size = x) := ⟨_, Lib.hid rfl⟩
  obtain ⟨V, HV⟩ : ∃ x, Hid (W.alloc (.cells #[.string (str s), .int .i64 0, .bool false] 80) = x) := ⟨_, Lib.hid rfl⟩
  obtain ⟨b, Hb⟩ : ∃ x, Hid (W.heap.size = x) := ⟨_, Lib.hid rfl⟩
  have hbq1 : Hid (q + 1 = b) := Lib.hid (by rw [← Hb.out, ← HW.out, ← Hq.out]; simp)
  have BV : Hid (Below w.heap.size w V) := Lib.hid (by rw [← HV.out, ← HW.out]; exact balloc (balloc (Below.refl _ _) _) _)
  have NQ : Hid (NtF V q nt0) := Lib.hid (by rw [← HV.out]; exact (by rw [← HW.out, ← Hq.out]; exact NtF.new w nt0 _ : NtF W q nt0).below (balloc (Below.refl _ _) _))
  have RV : Hid (AR V b s false) := Lib.hid (by rw [← HV.out, ← Hb.out]; exact AR.made' W s hs)
  have hbq : Hid (q ≠ b) := Lib.hid (by have := hbq1.out; omega)
  have hwb : Hid (w.heap.size ≤ b) := Lib.hid (by have := hbq1.out; have := Hq.out; omega)
  go_enter Try.func10, Try.ntmps10
  go_wp2_with fail
  rw [HW.out, HV.out, Hq.out, hbq1.out]
  refine (ATwo_any b s false V RV.out).mono ?_
  rintro e w2 ⟨rfl, m2, r2⟩
  have R2 := Lib.hid r2
  have Q2 := Lib.hid (NQ.out.later m2 hbq.out)
  have B2 := Lib.hid (bmod BV.out m2 hwb.out)
  clear m2 r2 RV NQ HV HW Hb
  obtain ⟨k0, Hk0⟩ : ∃ x : Nat, Hid (textN s = x) := ⟨_, Lib.hid rfl⟩
  rw [Hk0.out]
  obtain ⟨p, Hp⟩ : ∃ x, Hid (w2.heap.size = x) := ⟨_, Lib.hid rfl⟩
  have hqp : Hid (q ≠ p) := Lib.hid (by have := Q2.out.is.lt; have := Hp.out; omega)
  have hbp : Hid (p ≠ b) := Lib.hid (by have := R2.out.lt2; have := Hp.out; omega)
  have hwp : Hid (w.heap.size ≤ p) := Lib.hid (by have := B2.out.size; have := Hp.out; omega)
  obtain ⟨w3, HW3⟩ : ∃ x, Hid (w2.alloc (.cells #[.int .i64 (k0 : Int), .int .i64 0, .int .i64 0, .int .i64 0, .int .i64 0] 23) = x) := ⟨_, Lib.hid rfl⟩
  have P3 : Hid (NtF w3 p ⟨k0, 0, 0, 0, 0⟩) := Lib.hid (by rw [← HW3.out, ← Hp.out]; exact NtF.new w2 ⟨k0, 0, 0, 0, 0⟩ _)
  have M3 : Hid (Below w2.heap.size w2 w3) := Lib.hid (by rw [← HW3.out]; exact balloc (Below.refl _ _) _)
  have Q3 := Lib.hid (Q2.out.below M3.out)
  have R3 := Lib.hid (R2.out.later (Mod.of_below (S := fun _ => False) M3.out) id)
  have B3 := Lib.hid (bnext B2.out M3.out)
  clear Q2 R2 M3
  go_wp2_with fail
  rw [HW3.out, Hp.out]
  clear HW3 Hp
  refine (AEight_any b _ _ 1099511627776 (by omega) (by omega) w3 R3.out).mono ?_
  rintro e a1 ⟨rfl, m, r⟩
  have Ra1 := Lib.hid r
  have Qa1 := Lib.hid (Q3.out.later m hbq.out)
  have Pa1 := Lib.hid (P3.out.later m hbp.out)
  have Ba1 := Lib.hid (bmod B3.out m hwb.out)
  clear m r R3 Q3 P3 B3
  obtain ⟨k1, Hk1⟩ : ∃ x : Nat, Hid (eightV (nL1 s) 1099511627776 = x) := ⟨_, Lib.hid rfl⟩
  rw [show eightV (takeL s 2) 1099511627776 = k1 from Hk1.out]
  have d := Pa1.out.is.c1
  have f := Pa1.out.f1
  obtain ⟨z1, Hz1⟩ : ∃ x, Hid (a1.setCell ⟨p, 1, none⟩ (.int .i64 (k1 : Int)) = x) := ⟨_, Lib.hid rfl⟩
  have Mz1 : Hid (Mod (· = p) a1 z1) := Lib.hid (by rw [← Hz1.out]; exact (Mod.refl _ a1).set1 _)
  have Pz1 : Hid (NtF z1 p ⟨k0, k1, 0, 0, 0⟩) := Lib.hid (by rw [← Hz1.out]; exact Pa1.out.put1 _)
  have Qz1 := Lib.hid (Qa1.out.later Mz1.out hqp.out)
  have Rz1 := Lib.hid (Ra1.out.later Mz1.out (fun e => hbp.out e.symm))
  have Bz1 := Lib.hid (bmod Ba1.out Mz1.out hwp.out)
  clear Ra1 Qa1 Ba1 Mz1
  go_wp2_with fail
  rw [Hz1.out]
  clear d f Hz1 Pa1
  refine (ATwo_any b _ _ z1 Rz1.out).mono ?_
  rintro e a2 ⟨rfl, m, r⟩
  have Ra2 := Lib.hid r
  have Qa2 := Lib.hid (Qz1.out.later m hbq.out)
  have Pa2 := Lib.hid (Pz1.out.later m hbp.out)
  have Ba2 := Lib.hid (bmod Bz1.out m hwb.out)
  clear m r Rz1 Qz1 Pz1 Bz1
  obtain ⟨k2, Hk2⟩ : ∃ x : Nat, Hid (textN (nL2 s) = x) := ⟨_, Lib.hid rfl⟩
  rw [show textN (eightL (takeL s 2) 1099511627776) = k2 from Hk2.out]
  have d := Pa2.out.is.c2
  have f := Pa2.out.f2
  obtain ⟨z2, Hz2⟩ : ∃ x, Hid (a2.setCell ⟨p, 2, none⟩ (.int .i64 (k2 : Int)) = x) := ⟨_, Lib.hid rfl⟩
  have Mz2 : Hid (Mod (· = p) a2 z2) := Lib.hid (by rw [← Hz2.out]; exact (Mod.refl _ a2).set1 _)
  have Pz2 : Hid (NtF z2 p ⟨k0, k1, k2, 0, 0⟩) := Lib.hid (by rw [← Hz2.out]; exact Pa2.out.put2 _)
  have Qz2 := Lib.hid (Qa2.out.later Mz2.out hqp.out)
  have Rz2 := Lib.hid (Ra2.out.later Mz2.out (fun e => hbp.out e.symm))
  have Bz2 := Lib.hid (bmod Ba2.out Mz2.out hwp.out)
  clear Ra2 Qa2 Ba2 Mz2
  go_wp2_with fail
  rw [Hz2.out]
  clear d f Hz2 Pa2
  refine (ATwo_any b _ _ z2 Rz2.out).mono ?_
  rintro e a3 ⟨rfl, m, r⟩
  have Ra3 := Lib.hid r
  have Qa3 := Lib.hid (Qz2.out.later m hbq.out)
  have Pa3 := Lib.hid (Pz2.out.later m hbp.out)
  have Ba3 := Lib.hid (bmod Bz2.out m hwb.out)
  clear m r Rz2 Qz2 Pz2 Bz2
  obtain ⟨k3, Hk3⟩ : ∃ x : Nat, Hid (textN (nL3 s) = x) := ⟨_, Lib.hid rfl⟩
  rw [show textN (takeL (eightL (takeL s 2) 1099511627776) 2) = k3 from Hk3.out]
  have d := Pa3.out.is.c3
  have f := Pa3.out.f3
  obtain ⟨z3, Hz3⟩ : ∃ x, Hid (a3.setCell ⟨p, 3, none⟩ (.int .i64 (k3 : Int)) = x) := ⟨_, Lib.hid rfl⟩
  have Mz3 : Hid (Mod (· = p) a3 z3) := Lib.hid (by rw [← Hz3.out]; exact (Mod.refl _ a3).set1 _)
  have Pz3 : Hid (NtF z3 p ⟨k0, k1, k2, k3, 0⟩) := Lib.hid (by rw [← Hz3.out]; exact Pa3.out.put3 _)
  have Qz3 := Lib.hid (Qa3.out.later Mz3.out hqp.out)
  have Rz3 := Lib.hid (Ra3.out.later Mz3.out (fun e => hbp.out e.symm))
  have Bz3 := Lib.hid (bmod Ba3.out Mz3.out hwp.out)
  clear Ra3 Qa3 Ba3 Mz3
  go_wp2_with fail
  rw [Hz3.out]
  clear d f Hz3 Pa3
  refine (AEight_any b _ _ 1099511627776 (by omega) (by omega) z3 Rz3.out).mono ?_
  rintro e a4 ⟨rfl, m, r⟩
  have Ra4 := Lib.hid r
  have Qa4 := Lib.hid (Qz3.out.later m hbq.out)
  have Pa4 := Lib.hid (Pz3.out.later m hbp.out)
  have Ba4 := Lib.hid (bmod Bz3.out m hwb.out)
  clear m r Rz3 Qz3 Pz3 Bz3
  obtain ⟨k4, Hk4⟩ : ∃ x : Nat, Hid (eightV (nL4 s) 1099511627776 = x) := ⟨_, Lib.hid rfl⟩
  rw [show eightV (takeL (takeL (eightL (takeL s 2) 1099511627776) 2) 2) 1099511627776 = k4 from Hk4.out]
  have d := Pa4.out.is.c4
  have f := Pa4.out.f4
  obtain ⟨z4, Hz4⟩ : ∃ x, Hid (a4.setCell ⟨p, 4, none⟩ (.int .i64 (k4 : Int)) = x) := ⟨_, Lib.hid rfl⟩
  have Mz4 : Hid (Mod (· = p) a4 z4) := Lib.hid (by rw [← Hz4.out]; exact (Mod.refl _ a4).set1 _)
  have Pz4 : Hid (NtF z4 p ⟨k0, k1, k2, k3, k4⟩) := Lib.hid (by rw [← Hz4.out]; exact Pa4.out.put4 _)
  have Qz4 := Lib.hid (Qa4.out.later Mz4.out hqp.out)
  have Rz4 := Lib.hid (Ra4.out.later Mz4.out (fun e => hbp.out e.symm))
  have Bz4 := Lib.hid (bmod Ba4.out Mz4.out hwp.out)
  have g0 := Pz4.out.is.c0
  have g1 := Pz4.out.is.c1
  have g2 := Pz4.out.is.c2
  have g3 := Pz4.out.is.c3
  have g4 := Pz4.out.is.c4
  have hz4 := Hz4.out
  clear Ra4 Qa4 Ba4 Mz4
  go_wp2_with fail
  clear d f hz4 Hz4 Pa4
  have hN : Hid (rawN s = ⟨k0, k1, k2, k3, k4⟩) := Lib.hid (by rw [rawN, Hk0.out, Hk1.out, Hk2.out, Hk3.out, Hk4.out])
  refine (xmay_any z4 ⟨k0, k1, k2, k3, k4⟩).mono ?_
  obtain ⟨mb, Hmb⟩ : ∃ x, Hid (mayB ⟨k0, k1, k2, k3, k4⟩ = x) := ⟨_, Lib.hid rfl⟩
  rw [Hmb.out]
  rintro e wa ⟨rfl, hba⟩
  have Qa := Lib.hid (Qz4.out.below hba)
  have Pa := Lib.hid (Pz4.out.below hba)
  have Ra := Lib.hid (Rz4.out.later (Mod.of_below (S := fun _ => False) hba) id)
  have Ba := Lib.hid (bnext Bz4.out hba)
  clear hba g0 g1 g2 g3 g4 Qz4 Pz4 Rz4 Bz4
  go_wp2_with fail
  refine (AEnd_any b _ _ wa Ra.out).mono ?_
  rintro e wb ⟨rfl, hbb⟩
  have Qb := Lib.hid (Qa.out.below hbb)
  have Pb := Lib.hid (Pa.out.below hbb)
  have Bb := Lib.hid (bnext Ba.out hbb)
  obtain ⟨E, HE⟩ : ∃ x, Hid (endE (nL5 s) (nB5 s) = x) := ⟨_, Lib.hid rfl⟩
  rw [show endE (eightL (takeL (takeL (eightL (takeL s 2) 1099511627776) 2) 2) 1099511627776) (eightB (takeL (takeL (eightL (takeL s 2) 1099511627776) 2) 2) (takeB (takeL (eightL (takeL s 2) 1099511627776) 2) (takeB (eightL (takeL s 2) 1099511627776) (eightB (takeL s 2) (takeB s false 2) 1099511627776) 2) 2) 1099511627776) = E from HE.out]
  clear hbb Qa Pa Ba Ra
  by_cases hE0 : E = 0
  · have hEb : (E != 0) = false := by simp [hE0]
    have HE0 := Lib.hid hE0
    clear hE0
    cases mb
    · have HR : Hid (RN = nt0 ∧ RE = 10) := Lib.hid (by rw [← HRN.out, ← HRE.out, readN, readE, okN, HE.out, hN.out, HE0.out, Hmb.out]; exact ⟨rfl, rfl⟩)
      obtain ⟨wz, HWz⟩ : ∃ x, Hid (setN wb q ⟨0, 0, 0, 0, 0⟩ = x) := ⟨_, Lib.hid rfl⟩
      have hwz := HWz.out
      unfold setN at hwz
      have d0 := Qb.out.is.c0
      have d1 := Qb.out.is.c1
      have d2 := Qb.out.is.c2
      have d3 := Qb.out.is.c3
      have d4 := Qb.out.is.c4
      have f0 := Qb.out.f0
      have f1 := Qb.out.f1
      have f2 := Qb.out.f2
      have f3 := Qb.out.f3
      have f4 := Qb.out.f4
      have NZ : Hid (NtAt wz q ⟨0, 0, 0, 0, 0⟩) := Lib.hid (by rw [← HWz.out]; exact (Qb.out.set _).is)
      have BZ : Hid (Below w.heap.size w wz) := Lib.hid (by rw [← HWz.out]; exact setN_below Bb.out (by have := Hq.out; omega) _)
      go_wp2_with fail
      have c0 := NZ.out.c0
      have c1 := NZ.out.c1
      have c2 := NZ.out.c2
      have c3 := NZ.out.c3
      have c4 := NZ.out.c4
      refine bodyPost_ret (v := .tuple #[ntV ⟨0, 0, 0, 0, 0⟩, .int .i64 10]) ?_ rfl ⟨?_, BZ.out⟩
      · rw [results_cell_tmp rfl]
        go_simp
      · rw [HR.out.1, HR.out.2] <;> rfl
    · have HR : Hid (RN = ⟨k0, k1, k2, k3, k4⟩ ∧ RE = 0) := Lib.hid (by rw [← HRN.out, ← HRE.out, readN, readE, okN, HE.out, hN.out, HE0.out, Hmb.out]; exact ⟨rfl, rfl⟩)
      have g0 := Pb.out.is.c0
      have g1 := Pb.out.is.c1
      have g2 := Pb.out.is.c2
      have g3 := Pb.out.is.c3
      have g4 := Pb.out.is.c4
      obtain ⟨wz, HWz⟩ : ∃ x, Hid (setN wb q ⟨k0, k1, k2, k3, k4⟩ = x) := ⟨_, Lib.hid rfl⟩
      have hwz := HWz.out
      unfold setN at hwz
      have d0 := Qb.out.is.c0
      have d1 := Qb.out.is.c1
      have d2 := Qb.out.is.c2
      have d3 := Qb.out.is.c3
      have d4 := Qb.out.is.c4
      have f0 := Qb.out.f0
      have f1 := Qb.out.f1
      have f2 := Qb.out.f2
      have f3 := Qb.out.f3
      have f4 := Qb.out.f4
      have NZ : Hid (NtAt wz q ⟨k0, k1, k2, k3, k4⟩) := Lib.hid (by rw [← HWz.out]; exact (Qb.out.set _).is)
      have BZ : Hid (Below w.heap.size w wz) := Lib.hid (by rw [← HWz.out]; exact setN_below Bb.out (by have := Hq.out; omega) _)
      go_wp2_with fail
      have c0 := NZ.out.c0
      have c1 := NZ.out.c1
      have c2 := NZ.out.c2
      have c3 := NZ.out.c3
      have c4 := NZ.out.c4
      refine bodyPost_ret (v := .tuple #[ntV ⟨k0, k1, k2, k3, k4⟩, .int .i64 0]) ?_ rfl ⟨?_, BZ.out⟩
      · rw [results_cell_tmp rfl]
        go_simp
      · rw [HR.out.1, HR.out.2] <;> rfl
  · have hEb : (E != 0) = true := by simp [hE0]
    have hEf : Hid ((E == 0) = false) := Lib.hid (by simp [hE0])
    clear hE0
    have HR : Hid (RN = nt0 ∧ RE = 10) := Lib.hid (by rw [← HRN.out, ← HRE.out, readN, readE, okN, HE.out, hN.out, hEf.out, Bool.false_and]; exact ⟨rfl, rfl⟩)
    obtain ⟨wz, HWz⟩ : ∃ x, Hid (setN wb q ⟨0, 0, 0, 0, 0⟩ = x) := ⟨_, Lib.hid rfl⟩
    have hwz := HWz.out
    unfold setN at hwz
    have d0 := Qb.out.is.c0
    have d1 := Qb.out.is.c1
    have d2 := Qb.out.is.c2
    have d3 := Qb.out.is.c3
    have d4 := Qb.out.is.c4
    have f0 := Qb.out.f0
    have f1 := Qb.out.f1
    have f2 := Qb.out.f2
    have f3 := Qb.out.f3
    have f4 := Qb.out.f4
    have NZ : Hid (NtAt wz q ⟨0, 0, 0, 0, 0⟩) := Lib.hid (by rw [← HWz.out]; exact (Qb.out.set _).is)
    have BZ : Hid (Below w.heap.size w wz) := Lib.hid (by rw [← HWz.out]; exact setN_below Bb.out (by have := Hq.out; omega) _)
    go_wp2_with fail
    have c0 := NZ.out.c0
    have c1 := NZ.out.c1
    have c2 := NZ.out.c2
    have c3 := NZ.out.c3
    have c4 := NZ.out.c4
    refine bodyPost_ret (v := .tuple #[ntV ⟨0, 0, 0, 0, 0⟩, .int .i64 10]) ?_ rfl ⟨?_, BZ.out⟩
    · rw [results_cell_tmp rfl]
      go_simp
    · rw [HR.out.1, HR.out.2] <;> rfl
/-- Who a resource is given to. -/
def ofV (r : Int) (n : Nat) (l : List Int) : Int := if r < 0 ∨ n = 0 then -1 else l.getD (r.toNat % n) 0
set_option maxRecDepth 100000 in
theorem mOf_any (r : Int) (A : Option Addr) (n c : Nat) (l : List Int) (w : World) (h : IsInts .i64 w A n l) :
    Calls Try.prog 11 #[.int .i64 r, .slice A n c] w fun e w' => e = .returned (.int .i64 (ofV r n l)) ∧ w = w' := by
  by_cases h0 : r < 0
  · rw [ofV, if_pos (.inl h0)]
    go_enter Try.func11, Try.ntmps11
    go_wp2
    all_goals
      go_ret
      exact ⟨rfl, rfl⟩
  · by_cases hn : n = 0
    · rw [ofV, if_pos (.inr hn)]
      subst hn
      go_enter Try.func11, Try.ntmps11
      go_wp2
      go_ret
      exact ⟨rfl, rfl⟩
    · rw [ofV, if_neg (by omega)]
      obtain ⟨k, rfl⟩ := Int.eq_ofNat_of_zero_le (show 0 ≤ r by omega)
      obtain ⟨g, off, rfl, hc⟩ := h.cells (by omega)
      obtain ⟨j, hj, Hj⟩ : ∃ j : Nat, (k : Int).tmod (n : Int) = (j : Int) ∧ Hid (k % n = j) := ⟨k % n, rfl, Lib.hid rfl⟩
      have hlt : j < n := by rw [← Hj.out]; exact Nat.mod_lt _ (by omega)
      have hjn : (j : Int) < (n : Int) := by omega
      have hnz : ((n : Int) == 0) = false := by simp; omega
      have c0 := hc j hlt
      rw [Int.toNat_natCast, Hj.out]
      obtain ⟨z, Hz⟩ : ∃ x, Hid (l.getD j 0 = x) := ⟨_, Lib.hid rfl⟩
      rw [Hz.out] at c0 ⊢
      clear hc h
      go_enter Try.func11, Try.ntmps11
      go_wp2
      go_ret
      exact ⟨rfl, rfl⟩
set_option maxRecDepth 100000 in
theorem xOf_any (r : Int) (A : Option Addr) (n c : Nat) (l : List Int) (w : World) (h : IsInts .i64 w A n l) :
    Calls Try.prog 12 #[.int .i64 r, .slice A n c] w fun e w' => e = .returned (.int .i64 (ofV r n l)) ∧ w = w' := by
  by_cases h0 : r < 0
  · rw [ofV, if_pos (.inl h0)]
    go_enter Try.func12, Try.ntmps12
    go_wp2
    all_goals
      go_ret
      exact ⟨rfl, rfl⟩
  · by_cases hn : n = 0
    · rw [ofV, if_pos (.inr hn)]
      subst hn
      go_enter Try.func12, Try.ntmps12
      go_wp2
      go_ret
      exact ⟨rfl, rfl⟩
    · rw [ofV, if_neg (by omega)]
      obtain ⟨k, rfl⟩ := Int.eq_ofNat_of_zero_le (show 0 ≤ r by omega)
      obtain ⟨g, off, rfl, hc⟩ := h.cells (by omega)
      obtain ⟨j, hj, Hj⟩ : ∃ j : Nat, (k : Int).tmod (n : Int) = (j : Int) ∧ Hid (k % n = j) := ⟨k % n, rfl, Lib.hid rfl⟩
      have hlt : j < n := by rw [← Hj.out]; exact Nat.mod_lt _ (by omega)
      have hjn : (j : Int) < (n : Int) := by omega
      have hnz : ((n : Int) == 0) = false := by simp; omega
      have c0 := hc j hlt
      rw [Int.toNat_natCast, Hj.out]
      obtain ⟨z, Hz⟩ : ∃ x, Hid (l.getD j 0 = x) := ⟨_, Lib.hid rfl⟩
      rw [Hz.out] at c0 ⊢
      clear hc h
      go_enter Try.func12, Try.ntmps12
      go_wp2
      go_ret
      exact ⟨rfl, rfl⟩
end Go.Proofs.Ythpmodohfjjjcaa
