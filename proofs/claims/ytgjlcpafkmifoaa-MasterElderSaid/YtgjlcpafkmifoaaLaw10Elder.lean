/- What is of another epoch, or was counted already, changes nothing of a table, and nothing of what a holder has. For every slice of calls (the first 30 count). -/
import Derived.Test.YtgjlcpafkmifoaaRows
import Derived.Test.YtgjlcpafkmifoaaAw10
import Derived.Test.YtgjlcpafkmifoaaOps10
import Derived.Test.YtgjlcpafkmifoaaEl10
import Derived.Outline
namespace Go.Proofs.Ytgjlcpafkmifoaa.masterElder
open Go.RowKit Go.ChangeShapes Go.WideShapes Go.ChangeAt
open Go.ChangeMaps (open_string shut_string)

set_option maxHeartbeats 4000000 in
set_option maxRecDepth 100000 in
theorem walk (x0 : Option Addr) (len cap : Nat) (vs : Nat → Op10) (w : World) (hop : IsOps10 w x0 len vs) (_hlc : len ≤ cap) :
    Calls Try.prog 7 #[.slice x0 len cap] w fun e w' => e = .returned (.bool true) ∧ Below w.heap.size w w' := by
  have Hop := Lib.hid hop
  have hlm : len ≤ 9223372036854775807 := by have := hop.max; unfold maxLen at this; omega
  clear hop
  go_enter Try.func7, Try.ntmps7
  go_wp2_with fail
  refine (awake10_any w).mono ?_
  rintro e w0 ⟨rfl, hb0⟩
  have B0 := Lib.hid hb0
  clear hb0
  go_wp2_with fail
  refine (New_clean w0 7 1).mono ?_
  rw [show keptM 1 = 1 from rfl]
  rintro e w1 ⟨tb, rfl, y1, l1, b1, ht, nt⟩
  have Y1 := Lib.hid y1
  have L1 := Lib.hid l1
  have B1 : Hid (Below w.heap.size w w1) := Lib.hid (bnext B0.out b1)
  have Htb : Hid (w.heap.size ≤ tb) := Lib.hid (Nat.le_trans B0.out.size ht)
  have S1 : Hid (∀ g, ¬ Tb w1 tb g) := Lib.hid nt
  clear y1 l1 b1 ht nt
  go_wp2_with fail
  refine (Hold_any w1 7 1).mono ?_
  rw [show keptM 1 = 1 from rfl]
  rintro e w2 ⟨b, rfl, x2, b2, hb⟩
  have X2 := Lib.hid x2
  have Y2 := Lib.hid (Y1.out.below b2)
  have L2 := Lib.hid (tlt_back L1.out (Mod.of_below (S := fun _ => False) b2) Y1.out.lt id)
  have SB2 : Hid (∀ g, Tb w2 tb g → w.heap.size ≤ g ∧ g ≠ b) := Lib.hid (fun g hg => absurd (hg.back (Mod.of_below (S := fun _ => False) b2) Y1.out.lt id) (S1.out g))
  have B2 : Hid (Below w.heap.size w w2) := Lib.hid (bnext B1.out b2)
  have hne : tb ≠ b := by have := Y1.out.lt; omega
  have Hb : Hid (w.heap.size ≤ b) := Lib.hid (Nat.le_trans B1.out.size hb)
  clear x2 b2 hb
  have HCw := Lib.hid (hWant_any X2.out 0 1 (fun r _ _ => ⟨by simp [Ho.new, lk0], by simp [Ho.new, lk0]⟩))
  rw [el_1, el_2, ntV_def] at HCw
  go_wp2_with fail
  refine HCw.out.mono ?_
  rintro e w3 ⟨rfl, x3, m3⟩
  have X3 : Hid (IsH w3 b eH1) := Lib.hid x3
  have Y3 := Lib.hid (Y2.out.later m3 hne (fun g hg e => (SB2.out g hg).2 e))
  have L3 := Lib.hid (tlt_back L2.out m3 Y2.out.lt hne)
  have SB3 : Hid (∀ g, Tb w3 tb g → w.heap.size ≤ g ∧ g ≠ b) := Lib.hid (fun g hg => SB2.out g (hg.back m3 Y2.out.lt hne))
  have B3 : Hid (Below w.heap.size w w3) := Lib.hid (bmod B2.out m3 Hb.out)
  clear x3 m3 HCw
  obtain ⟨W4, HW4⟩ : ∃ x, Hid (w3.alloc (.cells #[.int .i64 1, .int .i64 7, .int .i64 0, .int .i64 1, .int .i64 1] 23) = x) := ⟨_, Lib.hid rfl⟩
  obtain ⟨p, Hp⟩ : ∃ x, Hid (w3.heap.size = x) := ⟨_, Lib.hid rfl⟩
  have B34 : Hid (Below w3.heap.size w3 W4) := Lib.hid (by rw [← HW4.out]; exact balloc (Below.refl _ _) _)
  have B4 : Hid (Below w.heap.size w W4) := Lib.hid (bnext B3.out B34.out)
  have X4 := Lib.hid (X3.out.below B34.out)
  have Y4 := Lib.hid (Y3.out.below B34.out)
  have L4 := Lib.hid (tlt_back L3.out (Mod.of_below (S := fun _ => False) B34.out) Y3.out.lt id)
  have SB4 : Hid (∀ g, Tb W4 tb g → w.heap.size ≤ g ∧ g ≠ b) := Lib.hid (fun g hg => SB3.out g (hg.back (Mod.of_below (S := fun _ => False) B34.out) Y3.out.lt id))
  have HC5 := Lib.hid (tHear_any Y4.out L4.out 2 ⟨1, 7, 0, 1, 1⟩)
  rw [el_3, ntV_def] at HC5
  go_wp2_with fail
  rw [HW4.out, Hp.out]
  refine HC5.out.mono ?_
  rintro e w5 ⟨T5, rfl, r5, y5, l5, m5, t5, k5⟩
  obtain ⟨g5, o5, c5, rfl, d5⟩ := td_first r5
  have Y5 : Hid (IsT w5 tb eT1) := Lib.hid y5
  have L5 := Lib.hid l5
  have D5 := Lib.hid d5
  have X5 := Lib.hid (X4.out.later m5 hne.symm)
  have SB5 : Hid (∀ g, Tb w5 tb g → w.heap.size ≤ g ∧ g ≠ b) := Lib.hid (fun g hg => by
    rcases k5 g hg with h | h
    · exact SB4.out g h
    · have := X4.out.lt; have := B4.out.size; exact ⟨by omega, by omega⟩)
  have B5 : Hid (Below w.heap.size w w5) := Lib.hid (bmod B4.out m5 Htb.out)
  clear r5 y5 l5 m5 t5 k5 d5 HC5
  have u1 := D5.out.c1
  have u2 := D5.out.c2
  have u3 := D5.out.c3
  have u4 := D5.out.c4
  have u5 := D5.out.c5
  have HC6 := Lib.hid (hHear_any X5.out ⟨3, 7, 0, 1, 1⟩ el_7)
  rw [ntV_def] at HC6
  go_wp2_with fail
  refine HC6.out.mono ?_
  rintro e w6 ⟨T6, rfl, r6, x6, m6, t6⟩
  have X6 : Hid (IsH w6 b eH2) := Lib.hid x6
  have Y6 := Lib.hid (Y5.out.later m6 hne (fun g hg e => (SB5.out g hg).2 e))
  have L6 := Lib.hid (tlt_back L5.out m6 Y5.out.lt hne)
  have SB6 : Hid (∀ g, Tb w6 tb g → w.heap.size ≤ g ∧ g ≠ b) := Lib.hid (fun g hg => SB5.out g (hg.back m6 Y5.out.lt hne))
  have B6 : Hid (Below w.heap.size w w6) := Lib.hid (bmod B5.out m6 Hb.out)
  clear r6 x6 m6 t6 u1 u2 u3 u4 u5 HC6
  go_wp2_with fail
  go_loopw [9] (fun i wr => ∃ (k : Nat), i = .int .i64 (k : Int) ∧ k ≤ len ∧ k ≤ 30 ∧ Hid (IsH wr b eH2) ∧ Hid (IsT wr tb eT1) ∧ Hid (Tlt wr tb) ∧ Hid (∀ g, Tb wr tb g → w.heap.size ≤ g ∧ g ≠ b) ∧ Hid (Below w.heap.size w wr)) (fun i _ => len - (intOf i).toNat)
  case atStart => exact ⟨0, rfl, Nat.zero_le _, Nat.zero_le _, X6, Y6, L6, SB6, B6⟩
  case round =>
    obtain ⟨k, rfl, hk, hk30, X, Y, L, SB, HB⟩ := hrel
    clear X2 Y2 L2 SB2 B2 X3 Y3 L3 SB3 B3 X4 Y4 L4 SB4 B4 X5 Y5 L5 SB5 B5 X6 Y6 L6 SB6 B6 HW4 Hp D5 Y1 L1 S1 B1 B0 B34
    by_cases hlt : k < len ∧ k < 30
    · have i1 : (k : Int) < (len : Int) := by omega
      have i2 : (k : Int) < 30 := by omega
      obtain ⟨bo, off, rfl, hbw, hat⟩ := Hop.out.at HB.out hlt.1
      obtain ⟨o, Ho'⟩ : ∃ o, Hid (vs k = o) := ⟨_, Lib.hid rfl⟩
      rw [Ho'.out] at hat
      have n0 := hat.c0
      have n1 := hat.c1
      have n2 := hat.c2
      have n3 := hat.c3
      have n4 := hat.c4
      have hbo := lt_of_cell n0
      clear hat
      by_cases g7 : o.note.epoch = 7
      · have e7 := beq_yes g7
        rw [g7] at n1 e7
        by_cases g4 : o.note.kind = 4
        · have e4 := beq_yes g4
          have BE : Hid (Below wr.heap.size wr (wr.alloc (.cells #[.int .i64 4, .int .i64 7, .int .i64 0, .int .i64 o.note.mode, .int .i64 0] 23))) := Lib.hid (balloc (Below.refl _ _) _)
          rw [g4] at n0 e4
          clear g4 g7
          go_wp2
          go_roundw
          case rel => exact ⟨k + 1, by go_num, by omega, by omega, Lib.hid (X.out.below BE.out), Lib.hid (Y.out.below BE.out), Lib.hid (tlt_back L.out (Mod.of_below (S := fun _ => False) BE.out) Y.out.lt id), Lib.hid (fun g hg => SB.out g (hg.back (Mod.of_below (S := fun _ => False) BE.out) Y.out.lt id)), Lib.hid (bnext HB.out BE.out)⟩
          case measure => simp [intOf]; omega
        · have e4 := beq_no g4
          have HS : Hid ((⟨o.note.kind, 7, 0, o.note.mode, 0⟩ : Nt).epoch = 7 → (⟨o.note.kind, 7, 0, o.note.mode, 0⟩ : Nt).seq = 0) := Lib.hid (fun _ => rfl)
          have HK : Hid ((⟨o.note.kind, 7, 0, o.note.mode, 0⟩ : Nt).epoch = 7 → (⟨o.note.kind, 7, 0, o.note.mode, 0⟩ : Nt).kind ≠ 4) := Lib.hid (fun _ => g4)
          clear g4 g7
          obtain ⟨pn, Hpn⟩ : ∃ x, Hid (wr.heap.size = x) := ⟨_, Lib.hid rfl⟩
          obtain ⟨WN, HWN⟩ : ∃ x, Hid (wr.alloc (.cells #[.int .i64 (⟨o.note.kind, 7, 0, o.note.mode, 0⟩ : Nt).kind, .int .i64 (⟨o.note.kind, 7, 0, o.note.mode, 0⟩ : Nt).epoch, .int .i64 (⟨o.note.kind, 7, 0, o.note.mode, 0⟩ : Nt).res, .int .i64 (⟨o.note.kind, 7, 0, o.note.mode, 0⟩ : Nt).mode, .int .i64 (⟨o.note.kind, 7, 0, o.note.mode, 0⟩ : Nt).seq] 23) = x) := ⟨_, Lib.hid rfl⟩
          have BN : Hid (Below wr.heap.size wr WN) := Lib.hid (by rw [← HWN.out]; exact balloc (Below.refl _ _) _)
          have PN : Hid (NtAt WN pn (⟨o.note.kind, 7, 0, o.note.mode, 0⟩ : Nt)) := Lib.hid (by rw [← HWN.out, ← Hpn.out]; exact NtAt.new wr (⟨o.note.kind, 7, 0, o.note.mode, 0⟩ : Nt) _)
          have XN := Lib.hid (X.out.below BN.out)
          have YN := Lib.hid (Y.out.below BN.out)
          have LN := Lib.hid (tlt_back L.out (Mod.of_below (S := fun _ => False) BN.out) Y.out.lt id)
          have SN : Hid (∀ g, Tb WN tb g → w.heap.size ≤ g ∧ g ≠ b) := Lib.hid (fun g hg => SB.out g (hg.back (Mod.of_below (S := fun _ => False) BN.out) Y.out.lt id))
          have BW : Hid (Below w.heap.size w WN) := Lib.hid (bnext HB.out BN.out)
          have hpt : pn ≠ tb := by have := Y.out.lt; have := Hpn.out; omega
          have E1 := Lib.hid (el_t (⟨o.note.kind, 7, 0, o.note.mode, 0⟩ : Nt) rfl HS.out)
          have E2 := Lib.hid (el_h (⟨o.note.kind, 7, 0, o.note.mode, 0⟩ : Nt) rfl HS.out HK.out)
          clear HS HK
          have HCt := Lib.hid (tHear_any YN.out LN.out 2 (⟨o.note.kind, 7, 0, o.note.mode, 0⟩ : Nt))
          rw [E1.out, ntV_def] at HCt
          go_wp2_with fail
          have hwn := HWN.out
          try simp only at hwn
          rw [hwn, Hpn.out]
          refine HCt.out.mono ?_
          rintro e v1 ⟨T1, rfl, _, y1, l1, m1, _, k1⟩
          have Yv := Lib.hid y1
          have Lv := Lib.hid l1
          have Xv := Lib.hid (XN.out.later m1 hne.symm)
          have Pv := Lib.hid (PN.out.later m1 hpt)
          have Sv : Hid (∀ g, Tb v1 tb g → w.heap.size ≤ g ∧ g ≠ b) := Lib.hid (fun g hg => by
            rcases k1 g hg with h | h
            · exact SN.out g h
            · have := XN.out.lt; have := BW.out.size; exact ⟨by omega, by omega⟩)
          have Bv : Hid (Below w.heap.size w v1) := Lib.hid (bmod BW.out m1 Htb.out)
          clear y1 l1 m1 k1 HCt hwn
          have c0 := Pv.out.c0
          have c1 := Pv.out.c1
          have c2 := Pv.out.c2
          have c3 := Pv.out.c3
          have c4 := Pv.out.c4
          have HCh := Lib.hid (hHear_any Xv.out (⟨o.note.kind, 7, 0, o.note.mode, 0⟩ : Nt) el_8)
          rw [E2.out, ntV_def] at HCh
          go_wp2_with fail
          refine HCh.out.mono ?_
          rintro e v2 ⟨T2, rfl, _, x2, m2, _⟩
          have X9 := Lib.hid x2
          have Y9 := Lib.hid (Yv.out.later m2 hne (fun g hg e => (Sv.out g hg).2 e))
          have L9 := Lib.hid (tlt_back Lv.out m2 Yv.out.lt hne)
          have S9 : Hid (∀ g, Tb v2 tb g → w.heap.size ≤ g ∧ g ≠ b) := Lib.hid (fun g hg => Sv.out g (hg.back m2 Yv.out.lt hne))
          have B9 : Hid (Below w.heap.size w v2) := Lib.hid (bmod Bv.out m2 Hb.out)
          clear x2 m2 HCh c0 c1 c2 c3 c4
          have HCq := Lib.hid (tQueue_any Y9.out (r := 0) (by omega) rfl)
          rw [el_4.1, el_4.2.1] at HCq
          go_wp2_with fail
          refine HCq.out.mono ?_
          rintro e v3 ⟨V3, rfl, q3, b3⟩
          obtain ⟨A3, n3', c3', A4, n4', c4', rfl, j3, j4⟩ := q3.is
          obtain rfl : n3' = 1 := j3.length.symm
          obtain rfl : n4' = 0 := j4.length.symm
          obtain ⟨g3, o3, rfl, hg3, hc3⟩ := j3.cells (by omega)
          obtain ⟨d0, d1⟩ := hc3 0 _ rfl
          rw [Nat.zero_mul, Nat.add_zero] at d0 d1
          obtain ⟨v4, Hv4⟩ : ∃ x, Hid (v3.alloc (.cells #[.slice (some ⟨g3, o3, none⟩) 1 c3', .slice A4 0 c4'] 57) = x) := ⟨_, Lib.hid rfl⟩
          have b4 : Below v3.heap.size v3 v4 := by rw [← Hv4.out]; exact balloc (Below.refl _ _) _
          have b24 := bnext b3 b4
          have d0' := (b4.cell (p := ⟨g3, o3, none⟩) hg3).trans d0
          have d1' := (b4.cell (p := ⟨g3, o3 + 1, none⟩) hg3).trans d1
          rw [← Hv4.out] at d0' d1'
          have X10 := Lib.hid (X9.out.below b24)
          have Y10 := Lib.hid (Y9.out.below b24)
          have L10 := Lib.hid (tlt_back L9.out (Mod.of_below (S := fun _ => False) b24) Y9.out.lt id)
          have S10 : Hid (∀ g, Tb v4 tb g → w.heap.size ≤ g ∧ g ≠ b) := Lib.hid (fun g hg => S9.out g (hg.back (Mod.of_below (S := fun _ => False) b24) Y9.out.lt id))
          have B10 : Hid (Below w.heap.size w v4) := Lib.hid (bnext B9.out b24)
          clear q3 b3 j3 j4 hc3 d0 d1 b4 b24 HCq
          have HCm := Lib.hid (hMode_any X10.out 0)
          rw [el_6.1] at HCm
          go_wp2_with fail
          rw [Hv4.out]
          refine HCm.out.mono ?_
          rintro e v5 ⟨rfl, b5⟩
          have X11 := Lib.hid (X10.out.below b5)
          have Y11 := Lib.hid (Y10.out.below b5)
          have L11 := Lib.hid (tlt_back L10.out (Mod.of_below (S := fun _ => False) b5) Y10.out.lt id)
          have S11 : Hid (∀ g, Tb v5 tb g → w.heap.size ≤ g ∧ g ≠ b) := Lib.hid (fun g hg => S10.out g (hg.back (Mod.of_below (S := fun _ => False) b5) Y10.out.lt id))
          have B11 : Hid (Below w.heap.size w v5) := Lib.hid (bnext B10.out b5)
          clear b5 HCm d0' d1'
          have HCw := Lib.hid (hWants_any X11.out 0)
          rw [el_6.2] at HCw
          go_wp2_with fail
          refine HCw.out.mono ?_
          rintro e v6 ⟨rfl, b6⟩
          have X12 := Lib.hid (X11.out.below b6)
          have Y12 := Lib.hid (Y11.out.below b6)
          have L12 := Lib.hid (tlt_back L11.out (Mod.of_below (S := fun _ => False) b6) Y11.out.lt id)
          have S12 : Hid (∀ g, Tb v6 tb g → w.heap.size ≤ g ∧ g ≠ b) := Lib.hid (fun g hg => S11.out g (hg.back (Mod.of_below (S := fun _ => False) b6) Y11.out.lt id))
          have B12 : Hid (Below w.heap.size w v6) := Lib.hid (bnext B11.out b6)
          clear b6 HCw
          go_wp2
          go_roundw
          case rel => exact ⟨k + 1, by go_num, by omega, by omega, X12, Y12, L12, S12, B12⟩
          case measure => simp [intOf]; omega
      · have e7 := beq_no g7
        by_cases g4 : o.note.kind = 4
        · have e4 := beq_yes g4
          rw [g4] at n0 e4
          have HS : Hid ((⟨4, o.note.epoch, 0, o.note.mode, o.note.seq⟩ : Nt).epoch = 7 → (⟨4, o.note.epoch, 0, o.note.mode, o.note.seq⟩ : Nt).seq = 0) := Lib.hid (fun e => absurd e g7)
          have HK : Hid ((⟨4, o.note.epoch, 0, o.note.mode, o.note.seq⟩ : Nt).epoch = 7 → (⟨4, o.note.epoch, 0, o.note.mode, o.note.seq⟩ : Nt).kind ≠ 4) := Lib.hid (fun e => absurd e g7)
          clear g4 g7
          obtain ⟨pn, Hpn⟩ : ∃ x, Hid (wr.heap.size = x) := ⟨_, Lib.hid rfl⟩
          obtain ⟨WN, HWN⟩ : ∃ x, Hid (wr.alloc (.cells #[.int .i64 (⟨4, o.note.epoch, 0, o.note.mode, o.note.seq⟩ : Nt).kind, .int .i64 (⟨4, o.note.epoch, 0, o.note.mode, o.note.seq⟩ : Nt).epoch, .int .i64 (⟨4, o.note.epoch, 0, o.note.mode, o.note.seq⟩ : Nt).res, .int .i64 (⟨4, o.note.epoch, 0, o.note.mode, o.note.seq⟩ : Nt).mode, .int .i64 (⟨4, o.note.epoch, 0, o.note.mode, o.note.seq⟩ : Nt).seq] 23) = x) := ⟨_, Lib.hid rfl⟩
          have BN : Hid (Below wr.heap.size wr WN) := Lib.hid (by rw [← HWN.out]; exact balloc (Below.refl _ _) _)
          have PN : Hid (NtAt WN pn (⟨4, o.note.epoch, 0, o.note.mode, o.note.seq⟩ : Nt)) := Lib.hid (by rw [← HWN.out, ← Hpn.out]; exact NtAt.new wr (⟨4, o.note.epoch, 0, o.note.mode, o.note.seq⟩ : Nt) _)
          have XN := Lib.hid (X.out.below BN.out)
          have YN := Lib.hid (Y.out.below BN.out)
          have LN := Lib.hid (tlt_back L.out (Mod.of_below (S := fun _ => False) BN.out) Y.out.lt id)
          have SN : Hid (∀ g, Tb WN tb g → w.heap.size ≤ g ∧ g ≠ b) := Lib.hid (fun g hg => SB.out g (hg.back (Mod.of_below (S := fun _ => False) BN.out) Y.out.lt id))
          have BW : Hid (Below w.heap.size w WN) := Lib.hid (bnext HB.out BN.out)
          have hpt : pn ≠ tb := by have := Y.out.lt; have := Hpn.out; omega
          have E1 := Lib.hid (el_t (⟨4, o.note.epoch, 0, o.note.mode, o.note.seq⟩ : Nt) rfl HS.out)
          have E2 := Lib.hid (el_h (⟨4, o.note.epoch, 0, o.note.mode, o.note.seq⟩ : Nt) rfl HS.out HK.out)
          clear HS HK
          have HCt := Lib.hid (tHear_any YN.out LN.out 2 (⟨4, o.note.epoch, 0, o.note.mode, o.note.seq⟩ : Nt))
          rw [E1.out, ntV_def] at HCt
          go_wp2_with fail
          have hwn := HWN.out
          try simp only at hwn
          rw [hwn, Hpn.out]
          refine HCt.out.mono ?_
          rintro e v1 ⟨T1, rfl, _, y1, l1, m1, _, k1⟩
          have Yv := Lib.hid y1
          have Lv := Lib.hid l1
          have Xv := Lib.hid (XN.out.later m1 hne.symm)
          have Pv := Lib.hid (PN.out.later m1 hpt)
          have Sv : Hid (∀ g, Tb v1 tb g → w.heap.size ≤ g ∧ g ≠ b) := Lib.hid (fun g hg => by
            rcases k1 g hg with h | h
            · exact SN.out g h
            · have := XN.out.lt; have := BW.out.size; exact ⟨by omega, by omega⟩)
          have Bv : Hid (Below w.heap.size w v1) := Lib.hid (bmod BW.out m1 Htb.out)
          clear y1 l1 m1 k1 HCt hwn
          have c0 := Pv.out.c0
          have c1 := Pv.out.c1
          have c2 := Pv.out.c2
          have c3 := Pv.out.c3
          have c4 := Pv.out.c4
          have HCh := Lib.hid (hHear_any Xv.out (⟨4, o.note.epoch, 0, o.note.mode, o.note.seq⟩ : Nt) el_8)
          rw [E2.out, ntV_def] at HCh
          go_wp2_with fail
          refine HCh.out.mono ?_
          rintro e v2 ⟨T2, rfl, _, x2, m2, _⟩
          have X9 := Lib.hid x2
          have Y9 := Lib.hid (Yv.out.later m2 hne (fun g hg e => (Sv.out g hg).2 e))
          have L9 := Lib.hid (tlt_back Lv.out m2 Yv.out.lt hne)
          have S9 : Hid (∀ g, Tb v2 tb g → w.heap.size ≤ g ∧ g ≠ b) := Lib.hid (fun g hg => Sv.out g (hg.back m2 Yv.out.lt hne))
          have B9 : Hid (Below w.heap.size w v2) := Lib.hid (bmod Bv.out m2 Hb.out)
          clear x2 m2 HCh c0 c1 c2 c3 c4
          have HCq := Lib.hid (tQueue_any Y9.out (r := 0) (by omega) rfl)
          rw [el_4.1, el_4.2.1] at HCq
          go_wp2_with fail
          refine HCq.out.mono ?_
          rintro e v3 ⟨V3, rfl, q3, b3⟩
          obtain ⟨A3, n3', c3', A4, n4', c4', rfl, j3, j4⟩ := q3.is
          obtain rfl : n3' = 1 := j3.length.symm
          obtain rfl : n4' = 0 := j4.length.symm
          obtain ⟨g3, o3, rfl, hg3, hc3⟩ := j3.cells (by omega)
          obtain ⟨d0, d1⟩ := hc3 0 _ rfl
          rw [Nat.zero_mul, Nat.add_zero] at d0 d1
          obtain ⟨v4, Hv4⟩ : ∃ x, Hid (v3.alloc (.cells #[.slice (some ⟨g3, o3, none⟩) 1 c3', .slice A4 0 c4'] 57) = x) := ⟨_, Lib.hid rfl⟩
          have b4 : Below v3.heap.size v3 v4 := by rw [← Hv4.out]; exact balloc (Below.refl _ _) _
          have b24 := bnext b3 b4
          have d0' := (b4.cell (p := ⟨g3, o3, none⟩) hg3).trans d0
          have d1' := (b4.cell (p := ⟨g3, o3 + 1, none⟩) hg3).trans d1
          rw [← Hv4.out] at d0' d1'
          have X10 := Lib.hid (X9.out.below b24)
          have Y10 := Lib.hid (Y9.out.below b24)
          have L10 := Lib.hid (tlt_back L9.out (Mod.of_below (S := fun _ => False) b24) Y9.out.lt id)
          have S10 : Hid (∀ g, Tb v4 tb g → w.heap.size ≤ g ∧ g ≠ b) := Lib.hid (fun g hg => S9.out g (hg.back (Mod.of_below (S := fun _ => False) b24) Y9.out.lt id))
          have B10 : Hid (Below w.heap.size w v4) := Lib.hid (bnext B9.out b24)
          clear q3 b3 j3 j4 hc3 d0 d1 b4 b24 HCq
          have HCm := Lib.hid (hMode_any X10.out 0)
          rw [el_6.1] at HCm
          go_wp2_with fail
          rw [Hv4.out]
          refine HCm.out.mono ?_
          rintro e v5 ⟨rfl, b5⟩
          have X11 := Lib.hid (X10.out.below b5)
          have Y11 := Lib.hid (Y10.out.below b5)
          have L11 := Lib.hid (tlt_back L10.out (Mod.of_below (S := fun _ => False) b5) Y10.out.lt id)
          have S11 : Hid (∀ g, Tb v5 tb g → w.heap.size ≤ g ∧ g ≠ b) := Lib.hid (fun g hg => S10.out g (hg.back (Mod.of_below (S := fun _ => False) b5) Y10.out.lt id))
          have B11 : Hid (Below w.heap.size w v5) := Lib.hid (bnext B10.out b5)
          clear b5 HCm d0' d1'
          have HCw := Lib.hid (hWants_any X11.out 0)
          rw [el_6.2] at HCw
          go_wp2_with fail
          refine HCw.out.mono ?_
          rintro e v6 ⟨rfl, b6⟩
          have X12 := Lib.hid (X11.out.below b6)
          have Y12 := Lib.hid (Y11.out.below b6)
          have L12 := Lib.hid (tlt_back L11.out (Mod.of_below (S := fun _ => False) b6) Y11.out.lt id)
          have S12 : Hid (∀ g, Tb v6 tb g → w.heap.size ≤ g ∧ g ≠ b) := Lib.hid (fun g hg => S11.out g (hg.back (Mod.of_below (S := fun _ => False) b6) Y11.out.lt id))
          have B12 : Hid (Below w.heap.size w v6) := Lib.hid (bnext B11.out b6)
          clear b6 HCw
          go_wp2
          go_roundw
          case rel => exact ⟨k + 1, by go_num, by omega, by omega, X12, Y12, L12, S12, B12⟩
          case measure => simp [intOf]; omega
        · have e4 := beq_no g4
          have HS : Hid ((⟨o.note.kind, o.note.epoch, 0, o.note.mode, o.note.seq⟩ : Nt).epoch = 7 → (⟨o.note.kind, o.note.epoch, 0, o.note.mode, o.note.seq⟩ : Nt).seq = 0) := Lib.hid (fun e => absurd e g7)
          have HK : Hid ((⟨o.note.kind, o.note.epoch, 0, o.note.mode, o.note.seq⟩ : Nt).epoch = 7 → (⟨o.note.kind, o.note.epoch, 0, o.note.mode, o.note.seq⟩ : Nt).kind ≠ 4) := Lib.hid (fun _ => g4)
          clear g4 g7
          obtain ⟨pn, Hpn⟩ : ∃ x, Hid (wr.heap.size = x) := ⟨_, Lib.hid rfl⟩
          obtain ⟨WN, HWN⟩ : ∃ x, Hid (wr.alloc (.cells #[.int .i64 (⟨o.note.kind, o.note.epoch, 0, o.note.mode, o.note.seq⟩ : Nt).kind, .int .i64 (⟨o.note.kind, o.note.epoch, 0, o.note.mode, o.note.seq⟩ : Nt).epoch, .int .i64 (⟨o.note.kind, o.note.epoch, 0, o.note.mode, o.note.seq⟩ : Nt).res, .int .i64 (⟨o.note.kind, o.note.epoch, 0, o.note.mode, o.note.seq⟩ : Nt).mode, .int .i64 (⟨o.note.kind, o.note.epoch, 0, o.note.mode, o.note.seq⟩ : Nt).seq] 23) = x) := ⟨_, Lib.hid rfl⟩
          have BN : Hid (Below wr.heap.size wr WN) := Lib.hid (by rw [← HWN.out]; exact balloc (Below.refl _ _) _)
          have PN : Hid (NtAt WN pn (⟨o.note.kind, o.note.epoch, 0, o.note.mode, o.note.seq⟩ : Nt)) := Lib.hid (by rw [← HWN.out, ← Hpn.out]; exact NtAt.new wr (⟨o.note.kind, o.note.epoch, 0, o.note.mode, o.note.seq⟩ : Nt) _)
          have XN := Lib.hid (X.out.below BN.out)
          have YN := Lib.hid (Y.out.below BN.out)
          have LN := Lib.hid (tlt_back L.out (Mod.of_below (S := fun _ => False) BN.out) Y.out.lt id)
          have SN : Hid (∀ g, Tb WN tb g → w.heap.size ≤ g ∧ g ≠ b) := Lib.hid (fun g hg => SB.out g (hg.back (Mod.of_below (S := fun _ => False) BN.out) Y.out.lt id))
          have BW : Hid (Below w.heap.size w WN) := Lib.hid (bnext HB.out BN.out)
          have hpt : pn ≠ tb := by have := Y.out.lt; have := Hpn.out; omega
          have E1 := Lib.hid (el_t (⟨o.note.kind, o.note.epoch, 0, o.note.mode, o.note.seq⟩ : Nt) rfl HS.out)
          have E2 := Lib.hid (el_h (⟨o.note.kind, o.note.epoch, 0, o.note.mode, o.note.seq⟩ : Nt) rfl HS.out HK.out)
          clear HS HK
          have HCt := Lib.hid (tHear_any YN.out LN.out 2 (⟨o.note.kind, o.note.epoch, 0, o.note.mode, o.note.seq⟩ : Nt))
          rw [E1.out, ntV_def] at HCt
          go_wp2_with fail
          have hwn := HWN.out
          try simp only at hwn
          rw [hwn, Hpn.out]
          refine HCt.out.mono ?_
          rintro e v1 ⟨T1, rfl, _, y1, l1, m1, _, k1⟩
          have Yv := Lib.hid y1
          have Lv := Lib.hid l1
          have Xv := Lib.hid (XN.out.later m1 hne.symm)
          have Pv := Lib.hid (PN.out.later m1 hpt)
          have Sv : Hid (∀ g, Tb v1 tb g → w.heap.size ≤ g ∧ g ≠ b) := Lib.hid (fun g hg => by
            rcases k1 g hg with h | h
            · exact SN.out g h
            · have := XN.out.lt; have := BW.out.size; exact ⟨by omega, by omega⟩)
          have Bv : Hid (Below w.heap.size w v1) := Lib.hid (bmod BW.out m1 Htb.out)
          clear y1 l1 m1 k1 HCt hwn
          have c0 := Pv.out.c0
          have c1 := Pv.out.c1
          have c2 := Pv.out.c2
          have c3 := Pv.out.c3
          have c4 := Pv.out.c4
          have HCh := Lib.hid (hHear_any Xv.out (⟨o.note.kind, o.note.epoch, 0, o.note.mode, o.note.seq⟩ : Nt) el_8)
          rw [E2.out, ntV_def] at HCh
          go_wp2_with fail
          refine HCh.out.mono ?_
          rintro e v2 ⟨T2, rfl, _, x2, m2, _⟩
          have X9 := Lib.hid x2
          have Y9 := Lib.hid (Yv.out.later m2 hne (fun g hg e => (Sv.out g hg).2 e))
          have L9 := Lib.hid (tlt_back Lv.out m2 Yv.out.lt hne)
          have S9 : Hid (∀ g, Tb v2 tb g → w.heap.size ≤ g ∧ g ≠ b) := Lib.hid (fun g hg => Sv.out g (hg.back m2 Yv.out.lt hne))
          have B9 : Hid (Below w.heap.size w v2) := Lib.hid (bmod Bv.out m2 Hb.out)
          clear x2 m2 HCh c0 c1 c2 c3 c4
          have HCq := Lib.hid (tQueue_any Y9.out (r := 0) (by omega) rfl)
          rw [el_4.1, el_4.2.1] at HCq
          go_wp2_with fail
          refine HCq.out.mono ?_
          rintro e v3 ⟨V3, rfl, q3, b3⟩
          obtain ⟨A3, n3', c3', A4, n4', c4', rfl, j3, j4⟩ := q3.is
          obtain rfl : n3' = 1 := j3.length.symm
          obtain rfl : n4' = 0 := j4.length.symm
          obtain ⟨g3, o3, rfl, hg3, hc3⟩ := j3.cells (by omega)
          obtain ⟨d0, d1⟩ := hc3 0 _ rfl
          rw [Nat.zero_mul, Nat.add_zero] at d0 d1
          obtain ⟨v4, Hv4⟩ : ∃ x, Hid (v3.alloc (.cells #[.slice (some ⟨g3, o3, none⟩) 1 c3', .slice A4 0 c4'] 57) = x) := ⟨_, Lib.hid rfl⟩
          have b4 : Below v3.heap.size v3 v4 := by rw [← Hv4.out]; exact balloc (Below.refl _ _) _
          have b24 := bnext b3 b4
          have d0' := (b4.cell (p := ⟨g3, o3, none⟩) hg3).trans d0
          have d1' := (b4.cell (p := ⟨g3, o3 + 1, none⟩) hg3).trans d1
          rw [← Hv4.out] at d0' d1'
          have X10 := Lib.hid (X9.out.below b24)
          have Y10 := Lib.hid (Y9.out.below b24)
          have L10 := Lib.hid (tlt_back L9.out (Mod.of_below (S := fun _ => False) b24) Y9.out.lt id)
          have S10 : Hid (∀ g, Tb v4 tb g → w.heap.size ≤ g ∧ g ≠ b) := Lib.hid (fun g hg => S9.out g (hg.back (Mod.of_below (S := fun _ => False) b24) Y9.out.lt id))
          have B10 : Hid (Below w.heap.size w v4) := Lib.hid (bnext B9.out b24)
          clear q3 b3 j3 j4 hc3 d0 d1 b4 b24 HCq
          have HCm := Lib.hid (hMode_any X10.out 0)
          rw [el_6.1] at HCm
          go_wp2_with fail
          rw [Hv4.out]
          refine HCm.out.mono ?_
          rintro e v5 ⟨rfl, b5⟩
          have X11 := Lib.hid (X10.out.below b5)
          have Y11 := Lib.hid (Y10.out.below b5)
          have L11 := Lib.hid (tlt_back L10.out (Mod.of_below (S := fun _ => False) b5) Y10.out.lt id)
          have S11 : Hid (∀ g, Tb v5 tb g → w.heap.size ≤ g ∧ g ≠ b) := Lib.hid (fun g hg => S10.out g (hg.back (Mod.of_below (S := fun _ => False) b5) Y10.out.lt id))
          have B11 : Hid (Below w.heap.size w v5) := Lib.hid (bnext B10.out b5)
          clear b5 HCm d0' d1'
          have HCw := Lib.hid (hWants_any X11.out 0)
          rw [el_6.2] at HCw
          go_wp2_with fail
          refine HCw.out.mono ?_
          rintro e v6 ⟨rfl, b6⟩
          have X12 := Lib.hid (X11.out.below b6)
          have Y12 := Lib.hid (Y11.out.below b6)
          have L12 := Lib.hid (tlt_back L11.out (Mod.of_below (S := fun _ => False) b6) Y11.out.lt id)
          have S12 : Hid (∀ g, Tb v6 tb g → w.heap.size ≤ g ∧ g ≠ b) := Lib.hid (fun g hg => S11.out g (hg.back (Mod.of_below (S := fun _ => False) b6) Y11.out.lt id))
          have B12 : Hid (Below w.heap.size w v6) := Lib.hid (bnext B11.out b6)
          clear b6 HCw
          go_wp2
          go_roundw
          case rel => exact ⟨k + 1, by go_num, by omega, by omega, X12, Y12, L12, S12, B12⟩
          case measure => simp [intOf]; omega
    · have i12 : ¬ ((k : Int) < (len : Int) ∧ (k : Int) < 30) := by omega
      by_cases i1 : (k : Int) < (len : Int)
      · have i2 : ¬ (k : Int) < 30 := by omega
        clear i12 hlt
        go_wp2
        go_ret
        exact ⟨rfl, HB.out⟩
      · clear i12 hlt
        go_wp2
        go_ret
        exact ⟨rfl, HB.out⟩
theorem own : ownKnob Try.prog.godebug = none := by kernel_rfl
theorem laidOut : laidOutB Try.prog = true := by kernel_rfl
set_option maxRecDepth 100000 in
theorem lifted (os : Os) (started : os.Started) (H : Type) (enc : TypeId × Value → H) :
    ReturnsInHanded {} Try.checked os 7 .any (Rows.masterElderSpec.pre6 enc Try.prog Try.f7 Rows.masterElderRow.domain false) (Rows.masterElderSpec.post enc Try.prog Try.f7 false true false false) := by
  refine returnsInHanded_of_change (C := Try.checked) own started (by kernel_rfl) Try.func7
    (ChangeSpec.witness6 (enc := enc) (C := Try.checked) false ⟨#[], #[.slice none 0 0], []⟩ 8 (by kernel_rfl) (by kernel_rfl) (by kernel_rfl) (by kernel_rfl)) ?_
  intro W base args ds gs before hval0 hW hcnd _
  have hval : ∀ (j : Nat) t v, Try.f7.params[j]? = some t → args[j]? = some v → Value.okWide Try.prog W .any base t v := hval0
  have hW' := hW
  obtain ⟨p, q, hA0, hV, rfl, hfz, hnd⟩ := hW
  have hA : DataW.TrodAll enc Try.prog W 0 (fun _ => true) true Try.f7.params.toList args.toList ds p := hA0
  rw [Try.params7] at hA hval
  obtain ⟨v0, vs0, d0, ds0, p0, q0, hargs, rfl, rfl, h0, r0⟩ := trodAll_cons hA
  obtain ⟨rfl, rfl, rfl⟩ := trodAll_nil r0
  obtain rfl : args = #[v0] := by cases args; simp_all
  obtain ⟨x0, len0, cap0, a0, rfl, w0, y0⟩ := opens_ops10 (hval 0 74 v0 rfl rfl) h0
  clear hA0 hval0
  refine (walk x0 len0 cap0 a0 W w0 y0).mono fun e W' ⟨he, bel⟩ => ?_
  subst he
  exact ⟨_, rfl, law_post laidOut (by rw [Try.params7]; decide +kernel) rfl Try.underlying4 rfl hW' (fun _ => rfl) bel⟩
theorem over : Rows.masterElderRow.holds Try.pinned (OpenSpec.ofChange Rows.masterElderSpec) :=
  OpenClaim.holds_of_wide 7 Try.f7 rfl rfl rfl rfl rfl rfl rfl ⟨rfl, rfl, rfl, rfl, rfl⟩ rfl rfl rfl rfl rfl (by kernel_rfl) Try.func7 (by kernel_rfl)
    (of_decide_eq_true (by kernel_rfl)) (by unfold Func.isWrapper; first | (rw [if_pos (by decide +kernel)]; kernel_rfl) | (rw [if_neg (by decide +kernel)]; exact ⟨rfl, rfl⟩))
    (fun os started H enc _ => lifted os started H enc)
theorem proved : Rows.MasterElderSaid := over
end Go.Proofs.Ytgjlcpafkmifoaa.masterElder
