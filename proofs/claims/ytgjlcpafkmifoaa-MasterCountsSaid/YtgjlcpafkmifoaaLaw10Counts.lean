/- A holder's count is one more with each note that is not one that was told already, and never less. For every slice of calls (the first 40 count). -/
import Derived.Test.YtgjlcpafkmifoaaRows
import Derived.Test.YtgjlcpafkmifoaaAw10
import Derived.Test.YtgjlcpafkmifoaaOps10
import Derived.Test.YtgjlcpafkmifoaaCp10
import Derived.Deep.DeepCutAuto
import Derived.Deep.CutBlock
import Derived.Outline
namespace Go.Proofs.Ytgjlcpafkmifoaa.masterCounts
open Go.RowKit Go.ChangeShapes Go.WideShapes Go.ChangeAt
open Go.ChangeMaps (open_string shut_string)

set_option maxHeartbeats 4000000 in
set_option maxRecDepth 100000 in
theorem walk (x0 : Option Addr) (len cap : Nat) (vs : Nat → Op10) (w : World) (hop : IsOps10 w x0 len vs) (_hlc : len ≤ cap) :
    Calls Try.prog 8 #[.slice x0 len cap] w fun e w' => e = .returned (.bool true) ∧ Below w.heap.size w w' := by
  have Hop := Lib.hid hop
  have hlm : len ≤ 9223372036854775807 := by have := hop.max; unfold maxLen at this; omega
  clear hop
  go_enter Try.func8, Try.ntmps8
  go_wp2_with fail
  refine (awake10_any w).mono ?_
  rintro e w1 ⟨rfl, hb1⟩
  have B1 := Lib.hid hb1
  clear hb1
  go_wp2_with fail
  refine (Hold_any w1 7 1).mono ?_
  rw [show keptM 1 = 1 from rfl]
  rintro e w2 ⟨b, rfl, x2, b2, hb⟩
  have X2 := Lib.hid x2
  have B2 : Hid (Below w.heap.size w w2) := Lib.hid (bnext B1.out b2)
  have Hb : Hid (w.heap.size ≤ b) := Lib.hid (Nat.le_trans B1.out.size hb)
  clear x2 b2 hb
  go_wp2_with fail
  go_loopw [5, 6] (fun la i wr => ∃ (k : Nat) (H : Ho) (c : Int), i = .int .i64 (k : Int) ∧ la = .int .i64 c ∧ k ≤ len ∧ k ≤ 40 ∧ Hid (IsH wr b H) ∧ Hid (HInv H k) ∧ Hid (c = (H.lk 0).count) ∧ Hid (Below w.heap.size w wr)) (fun _ i _ => len - (intOf i).toNat)
  case atStart => exact ⟨0, _, 0, rfl, rfl, Nat.zero_le _, Nat.zero_le _, X2, Lib.hid hinv_new, Lib.hid rfl, B2⟩
  case round =>
    obtain ⟨k, H, c, rfl, rfl, hk, hk40, X, HI, HC, HB⟩ := hrel
    clear X2 B2
    by_cases hlt : k < len ∧ k < 40
    · have i1 : (k : Int) < (len : Int) := by omega
      have i2 : (k : Int) < 40 := by omega
      obtain ⟨bo, off, rfl, hbw, hat⟩ := Hop.out.at HB.out hlt.1
      obtain ⟨o, Ho'⟩ : ∃ o, Hid (vs k = o) := ⟨_, Lib.hid rfl⟩
      rw [Ho'.out] at hat
      have ck := hat.kind
      have n0 := hat.c0
      have n1 := hat.c1
      have n2 := hat.c2
      have n3 := hat.c3
      have n4 := hat.c4
      have hbo := lt_of_cell ck
      clear hlt hat
      obtain ⟨pn, Hpn⟩ : ∃ x, Hid (wr.heap.size = x) := ⟨_, Lib.hid rfl⟩
      obtain ⟨WN, HWN⟩ : ∃ x, Hid (wr.alloc (.cells #[.int .i64 o.note.kind, .int .i64 7, .int .i64 0, .int .i64 o.note.mode, .int .i64 o.note.seq] 23) = x) := ⟨_, Lib.hid rfl⟩
      have BN : Hid (Below wr.heap.size wr WN) := Lib.hid (by rw [← HWN.out]; exact balloc (Below.refl _ _) _)
      have PN : Hid (NtF WN pn ⟨o.note.kind, 7, 0, o.note.mode, o.note.seq⟩) := Lib.hid (by rw [← HWN.out, ← Hpn.out]; exact NtF.new wr ⟨o.note.kind, 7, 0, o.note.mode, o.note.seq⟩ _)
      have XN := Lib.hid (X.out.below BN.out)
      have BW : Hid (Below w.heap.size w WN) := Lib.hid (bnext HB.out BN.out)
      have hpb : pn ≠ b := by have := X.out.lt; have := Hpn.out; omega
      obtain ⟨r, hr⟩ : ∃ r, o.kind.tmod 3 = r := ⟨_, rfl⟩
      go_upto_block 2 with fail
      rw [HWN.out, Hpn.out]
      go_cut [8] (fun T wx => ∃ (H2 : Ho) (L : List Nt) (A : Option Addr) (m cc : Nat), T = .slice A m cc ∧ Hid (RN wx (.slice A m cc) L) ∧ Hid (IsH wx b H2) ∧ Hid (HInv H2 (k + 1)) ∧ Hid (Chain c L (H2.lk 0).count) ∧ Hid (Below w.heap.size w wx))
      case first =>
        by_cases r0 : r = 0
        · have e0 := beq_yes r0
          clear r0
          have HCw := Lib.hid (hWant_any XN.out 0 o.note.mode (fun r hr _ => by have := HI.out.cnt r hr; exact ⟨this.1, by omega⟩))
          have HP := Lib.hid (c_want HI.out o.note.mode)
          obtain ⟨n', Hn'⟩ : ∃ q, Hid (wantN H 0 o.note.mode = q) := ⟨_, Lib.hid rfl⟩
          obtain ⟨q, Hq⟩ : ∃ q, Hid (wantOk H 0 o.note.mode = q) := ⟨_, Lib.hid rfl⟩
          obtain ⟨H2, HH2⟩ : ∃ q, Hid (wantH H 0 o.note.mode = q) := ⟨_, Lib.hid rfl⟩
          rw [Hn'.out, Hq.out, HH2.out] at HP
          rw [Hn'.out, Hq.out, HH2.out, ntV_def] at HCw
          rw [← HC.out] at HP
          have c3 := PN.out.is.c3
          go_wp2_with fail
          refine HCw.out.mono ?_
          rintro e u3 ⟨rfl, x3, m3⟩
          have X3 := Lib.hid x3
          have B3 : Hid (Below w.heap.size w u3) := Lib.hid (bmod BW.out m3 Hb.out)
          clear x3 m3 c3 HCw
          obtain ⟨u4, Hu4⟩ : ∃ x, Hid (u3.alloc (.cells #[.int .i64 n'.kind, .int .i64 n'.epoch, .int .i64 n'.res, .int .i64 n'.mode, .int .i64 n'.seq] 23) = x) := ⟨_, Lib.hid rfl⟩
          obtain ⟨p4, Hp4⟩ : ∃ x, Hid (u3.heap.size = x) := ⟨_, Lib.hid rfl⟩
          have hb4 : Below u3.heap.size u3 u4 := by rw [← Hu4.out]; exact balloc (Below.refl _ _) _
          have B4 : Hid (Below w.heap.size w u4) := Lib.hid (bnext B3.out hb4)
          have P4 : Hid (NtAt u4 p4 n') := Lib.hid (by rw [← Hu4.out, ← Hp4.out]; exact NtAt.new u3 n' _)
          have X4 := Lib.hid (X3.out.below hb4)
          clear hb4
          cases q
          · go_wp2_with fail
            try rw [Hu4.out, Hp4.out]
            go_meet
            case rel => exact ⟨H2, [], none, 0, 0, rfl, Lib.hid (RG.nil _ _ _), X4, Lib.hid HP.out.1, Lib.hid HP.out.2, B4⟩
          · obtain ⟨u5, Hu5⟩ : ∃ x, Hid (u4.alloc (.cells #[.int .i64 n'.kind, .int .i64 n'.epoch, .int .i64 n'.res, .int .i64 n'.mode, .int .i64 n'.seq] 23) = x) := ⟨_, Lib.hid rfl⟩
            have Hp5 : Hid (u4.heap.size = p4 + 1) := Lib.hid (by rw [← Hu4.out, ← Hp4.out]; simp)
            have hb5 : Below u4.heap.size u4 u5 := by rw [← Hu5.out]; exact balloc (Below.refl _ _) _
            have G5 : IsG u5 5 ntE (some ⟨p4 + 1, 0, none⟩) 1 [n'] := by rw [← Hu5.out, ← Hp5.out]; exact nt_one u4 n' _
            obtain ⟨T6, u6, hr6, r6, a6⟩ := appG ntInf ntEnc (RG.nil u5 5 ntE) (c := 1) G5 (by simp) (by decide) 51
            rw [List.nil_append] at r6
            obtain ⟨A6, c6, rfl⟩ := r6.shape
            rw [show [n'].length = 1 from rfl] at r6 hr6 a6
            have Hr6 := Lib.hid hr6
            have R6 := Lib.hid r6
            have hb6 : Below u5.heap.size u5 u6 := a6.mod.to_below (fun i _ e => by cases e)
            have X6 := Lib.hid ((X4.out.below hb5).below hb6)
            have B6 : Hid (Below w.heap.size w u6) := Lib.hid (bnext (bnext B4.out hb5) hb6)
            clear hr6 r6 a6 hb5 hb6 G5
            have d0 := P4.out.c0
            have d1 := P4.out.c1
            have d2 := P4.out.c2
            have d3 := P4.out.c3
            have d4 := P4.out.c4
            go_wp2_with (at_builtin; rw [Hu4.out, Hp4.out, Hu5.out]; refine wpList_append_run rfl (.tmp 66) (.tmp 68) 51 rfl (by exact Hr6.out) ?_)
            go_meet
            case rel => exact ⟨H2, [n'], A6, 1, c6, rfl, R6, X6, Lib.hid HP.out.1, Lib.hid HP.out.2, B6⟩
        · have e0 := beq_no r0
          by_cases r1 : r = 1
          · have e1 := beq_yes r1
            clear r1
            have HCw := Lib.hid (hDrop_any XN.out 0 o.note.mode (fun r hr _ => by have := HI.out.cnt r hr; exact ⟨this.1, by omega⟩))
            have HP := Lib.hid (c_drop HI.out o.note.mode)
            obtain ⟨n', Hn'⟩ : ∃ q, Hid (dropN H 0 o.note.mode = q) := ⟨_, Lib.hid rfl⟩
            obtain ⟨q, Hq⟩ : ∃ q, Hid (dropOk H 0 o.note.mode = q) := ⟨_, Lib.hid rfl⟩
            obtain ⟨H2, HH2⟩ : ∃ q, Hid (dropH H 0 o.note.mode = q) := ⟨_, Lib.hid rfl⟩
            rw [Hn'.out, Hq.out, HH2.out] at HP
            rw [Hn'.out, Hq.out, HH2.out, ntV_def] at HCw
            rw [← HC.out] at HP
            have c3 := PN.out.is.c3
            go_wp2_with fail
            refine HCw.out.mono ?_
            rintro e u3 ⟨rfl, x3, m3⟩
            have X3 := Lib.hid x3
            have B3 : Hid (Below w.heap.size w u3) := Lib.hid (bmod BW.out m3 Hb.out)
            clear x3 m3 c3 HCw
            obtain ⟨u4, Hu4⟩ : ∃ x, Hid (u3.alloc (.cells #[.int .i64 n'.kind, .int .i64 n'.epoch, .int .i64 n'.res, .int .i64 n'.mode, .int .i64 n'.seq] 23) = x) := ⟨_, Lib.hid rfl⟩
            obtain ⟨p4, Hp4⟩ : ∃ x, Hid (u3.heap.size = x) := ⟨_, Lib.hid rfl⟩
            have hb4 : Below u3.heap.size u3 u4 := by rw [← Hu4.out]; exact balloc (Below.refl _ _) _
            have B4 : Hid (Below w.heap.size w u4) := Lib.hid (bnext B3.out hb4)
            have P4 : Hid (NtAt u4 p4 n') := Lib.hid (by rw [← Hu4.out, ← Hp4.out]; exact NtAt.new u3 n' _)
            have X4 := Lib.hid (X3.out.below hb4)
            clear hb4
            cases q
            · go_wp2_with fail
              try rw [Hu4.out, Hp4.out]
              go_meet
              case rel => exact ⟨H2, [], none, 0, 0, rfl, Lib.hid (RG.nil _ _ _), X4, Lib.hid HP.out.1, Lib.hid HP.out.2, B4⟩
            · obtain ⟨u5, Hu5⟩ : ∃ x, Hid (u4.alloc (.cells #[.int .i64 n'.kind, .int .i64 n'.epoch, .int .i64 n'.res, .int .i64 n'.mode, .int .i64 n'.seq] 23) = x) := ⟨_, Lib.hid rfl⟩
              have Hp5 : Hid (u4.heap.size = p4 + 1) := Lib.hid (by rw [← Hu4.out, ← Hp4.out]; simp)
              have hb5 : Below u4.heap.size u4 u5 := by rw [← Hu5.out]; exact balloc (Below.refl _ _) _
              have G5 : IsG u5 5 ntE (some ⟨p4 + 1, 0, none⟩) 1 [n'] := by rw [← Hu5.out, ← Hp5.out]; exact nt_one u4 n' _
              obtain ⟨T6, u6, hr6, r6, a6⟩ := appG ntInf ntEnc (RG.nil u5 5 ntE) (c := 1) G5 (by simp) (by decide) 51
              rw [List.nil_append] at r6
              obtain ⟨A6, c6, rfl⟩ := r6.shape
              rw [show [n'].length = 1 from rfl] at r6 hr6 a6
              have Hr6 := Lib.hid hr6
              have R6 := Lib.hid r6
              have hb6 : Below u5.heap.size u5 u6 := a6.mod.to_below (fun i _ e => by cases e)
              have X6 := Lib.hid ((X4.out.below hb5).below hb6)
              have B6 : Hid (Below w.heap.size w u6) := Lib.hid (bnext (bnext B4.out hb5) hb6)
              clear hr6 r6 a6 hb5 hb6 G5
              have d0 := P4.out.c0
              have d1 := P4.out.c1
              have d2 := P4.out.c2
              have d3 := P4.out.c3
              have d4 := P4.out.c4
              go_wp2_with (at_builtin; rw [Hu4.out, Hp4.out, Hu5.out]; refine wpList_append_run rfl (.tmp 81) (.tmp 83) 51 rfl (by exact Hr6.out) ?_)
              go_meet
              case rel => exact ⟨H2, [n'], A6, 1, c6, rfl, R6, X6, Lib.hid HP.out.1, Lib.hid HP.out.2, B6⟩
          · have e1 := beq_no r1
            by_cases r2 : r = -1
            · have e2 := beq_yes r2
              clear r2
              have HCw := Lib.hid (hDrop_any XN.out 0 o.note.mode (fun r hr _ => by have := HI.out.cnt r hr; exact ⟨this.1, by omega⟩))
              have HP := Lib.hid (c_drop HI.out o.note.mode)
              obtain ⟨n', Hn'⟩ : ∃ q, Hid (dropN H 0 o.note.mode = q) := ⟨_, Lib.hid rfl⟩
              obtain ⟨q, Hq⟩ : ∃ q, Hid (dropOk H 0 o.note.mode = q) := ⟨_, Lib.hid rfl⟩
              obtain ⟨H2, HH2⟩ : ∃ q, Hid (dropH H 0 o.note.mode = q) := ⟨_, Lib.hid rfl⟩
              rw [Hn'.out, Hq.out, HH2.out] at HP
              rw [Hn'.out, Hq.out, HH2.out, ntV_def] at HCw
              rw [← HC.out] at HP
              have c3 := PN.out.is.c3
              go_wp2_with fail
              refine HCw.out.mono ?_
              rintro e u3 ⟨rfl, x3, m3⟩
              have X3 := Lib.hid x3
              have B3 : Hid (Below w.heap.size w u3) := Lib.hid (bmod BW.out m3 Hb.out)
              clear x3 m3 c3 HCw
              obtain ⟨u4, Hu4⟩ : ∃ x, Hid (u3.alloc (.cells #[.int .i64 n'.kind, .int .i64 n'.epoch, .int .i64 n'.res, .int .i64 n'.mode, .int .i64 n'.seq] 23) = x) := ⟨_, Lib.hid rfl⟩
              obtain ⟨p4, Hp4⟩ : ∃ x, Hid (u3.heap.size = x) := ⟨_, Lib.hid rfl⟩
              have hb4 : Below u3.heap.size u3 u4 := by rw [← Hu4.out]; exact balloc (Below.refl _ _) _
              have B4 : Hid (Below w.heap.size w u4) := Lib.hid (bnext B3.out hb4)
              have P4 : Hid (NtAt u4 p4 n') := Lib.hid (by rw [← Hu4.out, ← Hp4.out]; exact NtAt.new u3 n' _)
              have X4 := Lib.hid (X3.out.below hb4)
              clear hb4
              cases q
              · go_wp2_with fail
                try rw [Hu4.out, Hp4.out]
                go_meet
                case rel => exact ⟨H2, [], none, 0, 0, rfl, Lib.hid (RG.nil _ _ _), X4, Lib.hid HP.out.1, Lib.hid HP.out.2, B4⟩
              · obtain ⟨u5, Hu5⟩ : ∃ x, Hid (u4.alloc (.cells #[.int .i64 n'.kind, .int .i64 n'.epoch, .int .i64 n'.res, .int .i64 n'.mode, .int .i64 n'.seq] 23) = x) := ⟨_, Lib.hid rfl⟩
                have Hp5 : Hid (u4.heap.size = p4 + 1) := Lib.hid (by rw [← Hu4.out, ← Hp4.out]; simp)
                have hb5 : Below u4.heap.size u4 u5 := by rw [← Hu5.out]; exact balloc (Below.refl _ _) _
                have G5 : IsG u5 5 ntE (some ⟨p4 + 1, 0, none⟩) 1 [n'] := by rw [← Hu5.out, ← Hp5.out]; exact nt_one u4 n' _
                obtain ⟨T6, u6, hr6, r6, a6⟩ := appG ntInf ntEnc (RG.nil u5 5 ntE) (c := 1) G5 (by simp) (by decide) 51
                rw [List.nil_append] at r6
                obtain ⟨A6, c6, rfl⟩ := r6.shape
                rw [show [n'].length = 1 from rfl] at r6 hr6 a6
                have Hr6 := Lib.hid hr6
                have R6 := Lib.hid r6
                have hb6 : Below u5.heap.size u5 u6 := a6.mod.to_below (fun i _ e => by cases e)
                have X6 := Lib.hid ((X4.out.below hb5).below hb6)
                have B6 : Hid (Below w.heap.size w u6) := Lib.hid (bnext (bnext B4.out hb5) hb6)
                clear hr6 r6 a6 hb5 hb6 G5
                have d0 := P4.out.c0
                have d1 := P4.out.c1
                have d2 := P4.out.c2
                have d3 := P4.out.c3
                have d4 := P4.out.c4
                go_wp2_with (at_builtin; rw [Hu4.out, Hp4.out, Hu5.out]; refine wpList_append_run rfl (.tmp 81) (.tmp 83) 51 rfl (by exact Hr6.out) ?_)
                go_meet
                case rel => exact ⟨H2, [n'], A6, 1, c6, rfl, R6, X6, Lib.hid HP.out.1, Lib.hid HP.out.2, B6⟩
            · have e2 := beq_no r2
              by_cases g3 : o.note.kind = 3
              · have e3 := beq_yes g3
                by_cases g4 : o.note.seq = c
                · have e4 : (o.note.seq != c) = false := bne_no' g4
                  clear g3 g4
                  have HCw := Lib.hid (hHear_any XN.out ⟨o.note.kind, 7, 0, o.note.mode, o.note.seq⟩ (fun r hr => by have := HI.out.cnt r hr; exact ⟨this.1, by omega⟩))
                  have HP := Lib.hid (c_hear HI.out ⟨o.note.kind, 7, 0, o.note.mode, o.note.seq⟩ rfl)
                  obtain ⟨L, HL⟩ : ∃ q, Hid (hearT H ⟨o.note.kind, 7, 0, o.note.mode, o.note.seq⟩ = q) := ⟨_, Lib.hid rfl⟩
                  obtain ⟨H2, HH2⟩ : ∃ q, Hid (hearH H ⟨o.note.kind, 7, 0, o.note.mode, o.note.seq⟩ = q) := ⟨_, Lib.hid rfl⟩
                  rw [HL.out, HH2.out] at HP
                  rw [HL.out, HH2.out, ntV_def] at HCw
                  rw [← HC.out] at HP
                  have c0 := PN.out.is.c0
                  have c1 := PN.out.is.c1
                  have c2 := PN.out.is.c2
                  have c3 := PN.out.is.c3
                  have c4 := PN.out.is.c4
                  have f4 := PN.out.f4
                  go_wp2_with fail
                  refine HCw.out.mono ?_
                  rintro e u3 ⟨T3, rfl, r3, x3, m3, t3⟩
                  obtain ⟨A3, q3, e3⟩ := r3.shape
                  obtain ⟨n3, Hn3⟩ : ∃ q, Hid (L.length = q) := ⟨_, Lib.hid rfl⟩
                  rw [Hn3.out] at e3
                  subst e3
                  have R3 := Lib.hid r3
                  have X3 := Lib.hid x3
                  have B3 : Hid (Below w.heap.size w u3) := Lib.hid (bmod BW.out m3 Hb.out)
                  clear r3 x3 m3 t3 HCw c0 c1 c2 c3 c4 f4
                  go_wp2_with fail
                  go_meet
                  case rel => exact ⟨H2, L, A3, n3, q3, rfl, R3, X3, Lib.hid HP.out.1, Lib.hid HP.out.2, B3⟩
                · have e4 : (o.note.seq != c) = true := bne_yes' g4
                  clear g3 g4
                  obtain ⟨WS, HWS⟩ : ∃ x, Hid (WN.setCell ⟨pn, 4, none⟩ (.int .i64 c) = x) := ⟨_, Lib.hid rfl⟩
                  have XS : Hid (IsH WS b H) := Lib.hid (by rw [← HWS.out]; exact XN.out.later ((Mod.refl (· = pn) WN).set1 _) (fun e => hpb e.symm))
                  have BS : Hid (Below w.heap.size w WS) := Lib.hid (by rw [← HWS.out]; exact BW.out.setCell (by have := HB.out.size; have := Hpn.out; show _ ≤ pn; omega) _)
                  have HCw := Lib.hid (hHear_any XS.out ⟨o.note.kind, 7, 0, o.note.mode, c⟩ (fun r hr => by have := HI.out.cnt r hr; exact ⟨this.1, by omega⟩))
                  have HP := Lib.hid (c_hear HI.out ⟨o.note.kind, 7, 0, o.note.mode, c⟩ rfl)
                  obtain ⟨L, HL⟩ : ∃ q, Hid (hearT H ⟨o.note.kind, 7, 0, o.note.mode, c⟩ = q) := ⟨_, Lib.hid rfl⟩
                  obtain ⟨H2, HH2⟩ : ∃ q, Hid (hearH H ⟨o.note.kind, 7, 0, o.note.mode, c⟩ = q) := ⟨_, Lib.hid rfl⟩
                  rw [HL.out, HH2.out] at HP
                  rw [HL.out, HH2.out, ntV_def] at HCw
                  rw [← HC.out] at HP
                  have c0 := PN.out.is.c0
                  have c1 := PN.out.is.c1
                  have c2 := PN.out.is.c2
                  have c3 := PN.out.is.c3
                  have c4 := PN.out.is.c4
                  have f4 := PN.out.f4
                  go_wp2_with fail
                  rw [HWS.out]
                  refine HCw.out.mono ?_
                  rintro e u3 ⟨T3, rfl, r3, x3, m3, t3⟩
                  obtain ⟨A3, q3, e3⟩ := r3.shape
                  obtain ⟨n3, Hn3⟩ : ∃ q, Hid (L.length = q) := ⟨_, Lib.hid rfl⟩
                  rw [Hn3.out] at e3
                  subst e3
                  have R3 := Lib.hid r3
                  have X3 := Lib.hid x3
                  have B3 : Hid (Below w.heap.size w u3) := Lib.hid (bmod BS.out m3 Hb.out)
                  clear r3 x3 m3 t3 HCw c0 c1 c2 c3 c4 f4
                  go_wp2_with fail
                  go_meet
                  case rel => exact ⟨H2, L, A3, n3, q3, rfl, R3, X3, Lib.hid HP.out.1, Lib.hid HP.out.2, B3⟩
              · have e3 := beq_no g3
                clear g3
                have HCw := Lib.hid (hHear_any XN.out ⟨o.note.kind, 7, 0, o.note.mode, o.note.seq⟩ (fun r hr => by have := HI.out.cnt r hr; exact ⟨this.1, by omega⟩))
                have HP := Lib.hid (c_hear HI.out ⟨o.note.kind, 7, 0, o.note.mode, o.note.seq⟩ rfl)
                obtain ⟨L, HL⟩ : ∃ q, Hid (hearT H ⟨o.note.kind, 7, 0, o.note.mode, o.note.seq⟩ = q) := ⟨_, Lib.hid rfl⟩
                obtain ⟨H2, HH2⟩ : ∃ q, Hid (hearH H ⟨o.note.kind, 7, 0, o.note.mode, o.note.seq⟩ = q) := ⟨_, Lib.hid rfl⟩
                rw [HL.out, HH2.out] at HP
                rw [HL.out, HH2.out, ntV_def] at HCw
                rw [← HC.out] at HP
                have c0 := PN.out.is.c0
                have c1 := PN.out.is.c1
                have c2 := PN.out.is.c2
                have c3 := PN.out.is.c3
                have c4 := PN.out.is.c4
                have f4 := PN.out.f4
                go_wp2_with fail
                refine HCw.out.mono ?_
                rintro e u3 ⟨T3, rfl, r3, x3, m3, t3⟩
                obtain ⟨A3, q3, e3⟩ := r3.shape
                obtain ⟨n3, Hn3⟩ : ∃ q, Hid (L.length = q) := ⟨_, Lib.hid rfl⟩
                rw [Hn3.out] at e3
                subst e3
                have R3 := Lib.hid r3
                have X3 := Lib.hid x3
                have B3 : Hid (Below w.heap.size w u3) := Lib.hid (bmod BW.out m3 Hb.out)
                clear r3 x3 m3 t3 HCw c0 c1 c2 c3 c4 f4
                go_wp2_with fail
                go_meet
                case rel => exact ⟨H2, L, A3, n3, q3, rfl, R3, X3, Lib.hid HP.out.1, Lib.hid HP.out.2, B3⟩
      case rest =>
        obtain ⟨H2, L, A, m, cc, rfl, R, XC, HI2, HCh, BC⟩ := hcut
        have I2 := Lib.hid (R.out.is ntEnc).1
        have hmL : Hid (L.length = m) := Lib.hid I2.out.length
        have hms := I2.out.small
        have hc0 : Hid (0 ≤ c) := Lib.hid (by rw [HC.out]; exact (HI.out.cnt 0 (by omega)).1)
        clear ck n0 n1 n2 n3 n4 hr
        go_wp2_with fail
        go_loopw [5, 13, 14] (fun la jj _ wy => ∃ (i : Nat) (d : Int), jj = .int .i64 (i : Int) ∧ la = .int .i64 d ∧ i ≤ m ∧ Hid (0 ≤ d) ∧ Hid (Chain d (L.drop i) (H2.lk 0).count) ∧ wy = wc) (fun _ jj _ _ => m - (intOf jj).toNat)
        case atStart => exact ⟨0, c, rfl, rfl, Nat.zero_le _, hc0, HCh, rfl⟩
        case round =>
          obtain ⟨i, d, rfl, rfl, him, Hd0, Hch, hwy⟩ := hrel
          have hwy2 := hwy.symm
          clear hwy
          subst hwy2
          by_cases hi : i < m
          · obtain ⟨n, hn⟩ : ∃ n, L[i]? = some n := ⟨_, List.getElem?_eq_getElem (by rw [hmL.out]; exact hi)⟩
            obtain ⟨hres, hep, hor, hnext⟩ := chain_at L d _ i n Hch.out hn
            obtain ⟨g, off2, rfl, hg, hcs⟩ := I2.out.cells (by omega)
            have k0 := hcs i n 0 _ hn rfl
            have k1 := hcs i n 1 _ hn rfl
            have k2 := hcs i n 2 _ hn rfl
            have k4 := hcs i n 4 _ hn rfl
            rw [Nat.add_zero] at k0
            obtain ⟨kd, ep, rs, md, sq⟩ := n
            simp only at hres hep hor hnext k0 k1 k2 k4
            subst hres hep
            have hle := chain_le _ _ _ hnext
            have hmax := (HI2.out.cnt 0 (by omega)).2
            have hd0 := Hd0.out
            have hdle : d ≤ sq := by omega
            have hw1 : IntKind.i64.wrap (d + 1) = d + 1 := IntWalk.i64_in _ (by omega)
            have hi1 : (i : Int) < (m : Int) := by omega
            have hi0 : (0 : Int) ≤ (i : Int) := by omega
            have Hnext := Lib.hid hnext
            have Hsq : Hid (0 ≤ sq) := Lib.hid (by omega)
            clear hn hcs hnext hle hmax hd0
            by_cases g1 : kd = 1
            · have e1 := beq_yes g1
              by_cases g2 : sq = d
              · have e2 := beq_yes g2
                clear g1 g2 hor hdle
                go_wp2
                go_roundw
                case rel => exact ⟨i + 1, sq, by go_num, rfl, by omega, Hsq, Hnext, by first | rfl | trivial⟩
                case measure => simp [intOf]; omega
              · have e2 := beq_no g2
                have e3 : (sq != d + 1) = false := bne_no' (by rcases hor with h | h; exact absurd h.2 g2; exact h)
                clear g1 g2 hor hdle
                go_wp2
                go_roundw
                case rel => exact ⟨i + 1, sq, by go_num, rfl, by omega, Hsq, Hnext, by first | rfl | trivial⟩
                case measure => simp [intOf]; omega
            · have e1 := beq_no g1
              have e3 : (sq != d + 1) = false := bne_no' (by rcases hor with h | h; exact absurd h.1 g1; exact h)
              clear g1 hor hdle
              go_wp2
              go_roundw
              case rel => exact ⟨i + 1, sq, by go_num, rfl, by omega, Hsq, Hnext, by first | rfl | trivial⟩
              case measure => simp [intOf]; omega
          · have hi1 : ¬ (i : Int) < (m : Int) := by omega
            obtain rfl : i = m := by omega
            have hend : Hid (d = (H2.lk 0).count) := Lib.hid (by
              have := Hch.out
              rw [List.drop_of_length_le (by rw [hmL.out]; exact Nat.le_refl _)] at this
              exact this)
            go_wp2
            go_roundw
            case rel => exact ⟨k + 1, H2, d, by go_num, rfl, by omega, by omega, XC, HI2, hend, BC⟩
            case measure => simp [intOf]; omega
    · have i12 : ¬ ((k : Int) < (len : Int) ∧ (k : Int) < 40) := by omega
      by_cases i1 : (k : Int) < (len : Int)
      · have i2 : ¬ (k : Int) < 40 := by omega
        clear i12 hlt
        go_wp2
        go_ret
        exact ⟨rfl, HB.out⟩
      · clear i12 hlt
        go_wp2
        go_ret
        exact ⟨rfl, HB.out⟩
theorem own : ownKnob Try.prog.godebug = none := by kernel_rfl
theorem laidOut : laidOutB Try.prog = true := by kernel_rfl
set_option maxRecDepth 100000 in
theorem lifted (os : Os) (started : os.Started) (H : Type) (enc : TypeId × Value → H) :
    ReturnsInHanded {} Try.checked os 8 .any (Rows.masterCountsSpec.pre6 enc Try.prog Try.f8 Rows.masterCountsRow.domain false) (Rows.masterCountsSpec.post enc Try.prog Try.f8 false true false false) := by
  refine returnsInHanded_of_change (C := Try.checked) own started (by kernel_rfl) Try.func8
    (ChangeSpec.witness6 (enc := enc) (C := Try.checked) false ⟨#[], #[.slice none 0 0], []⟩ 8 (by kernel_rfl) (by kernel_rfl) (by kernel_rfl) (by kernel_rfl)) ?_
  intro W base args ds gs before hval0 hW hcnd _
  have hval : ∀ (j : Nat) t v, Try.f8.params[j]? = some t → args[j]? = some v → Value.okWide Try.prog W .any base t v := hval0
  have hW' := hW
  obtain ⟨p, q, hA0, hV, rfl, hfz, hnd⟩ := hW
  have hA : DataW.TrodAll enc Try.prog W 0 (fun _ => true) true Try.f8.params.toList args.toList ds p := hA0
  rw [Try.params8] at hA hval
  obtain ⟨v0, vs0, d0, ds0, p0, q0, hargs, rfl, rfl, h0, r0⟩ := trodAll_cons hA
  obtain ⟨rfl, rfl, rfl⟩ := trodAll_nil r0
  obtain rfl : args = #[v0] := by cases args; simp_all
  obtain ⟨x0, len0, cap0, a0, rfl, w0, y0⟩ := opens_ops10 (hval 0 74 v0 rfl rfl) h0
  clear hA0 hval0
  refine (walk x0 len0 cap0 a0 W w0 y0).mono fun e W' ⟨he, bel⟩ => ?_
  subst he
  exact ⟨_, rfl, law_post laidOut (by rw [Try.params8]; decide +kernel) rfl Try.underlying4 rfl hW' (fun _ => rfl) bel⟩
theorem over : Rows.masterCountsRow.holds Try.pinned (OpenSpec.ofChange Rows.masterCountsSpec) :=
  OpenClaim.holds_of_wide 8 Try.f8 rfl rfl rfl rfl rfl rfl rfl ⟨rfl, rfl, rfl, rfl, rfl⟩ rfl rfl rfl rfl rfl (by kernel_rfl) Try.func8 (by kernel_rfl)
    (of_decide_eq_true (by kernel_rfl)) (by unfold Func.isWrapper; first | (rw [if_pos (by decide +kernel)]; kernel_rfl) | (rw [if_neg (by decide +kernel)]; exact ⟨rfl, rfl⟩))
    (fun os started H enc _ => lifted os started H enc)
theorem proved : Rows.MasterCountsSaid := over
end Go.Proofs.Ytgjlcpafkmifoaa.masterCounts
