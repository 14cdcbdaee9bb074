/- QueueSafe: whatever is wanted, dropped and left, what is had is always safe, the queue may be, and only who waited, or wanted it just now, is served; nobody who waits is overtaken; for any changes from nothing on (eighty of them are made). -/
import Derived.Test.YtbeoigkjlgimdaaRows
import Derived.Test.YtbeoigkjlgimdaaPl9
import Derived.Test.YtbeoigkjlgimdaaPf9
import Derived.Test.YtbeoigkjlgimdaaRefS9
import Derived.Deep.DeepCutAuto
import Derived.Deep.CutBlock
namespace Go.Proofs.Ytbeoigkjlgimdaa.queueSafe
open Go.RowKit Go.ChangeShapes Go.WideShapes Go.ChangeAt
open Go.ChangeMaps (open_string shut_string)

set_option maxHeartbeats 2000000 in
set_option maxRecDepth 100000 in
theorem walk (x : Option Addr) (len cap : Nat) (vs : Nat → OpV) (W : World) (ho : IsOps W x len vs) (_ : len ≤ cap) :
    Calls Try.prog 3 #[.slice x len cap] W fun e W' => e = .returned (.bool true) ∧ Below W.heap.size W W' := by
  have hlen := ho.max
  have Hop := Lib.hid ho
  unfold maxLen at hlen
  clear ho
  go_enter Try.func3, Try.ntmps3
  go_wp2_with fail
  refine (awake_any W).mono ?_
  rintro e w0 ⟨rfl, hb⟩
  have B0 := Lib.hid hb
  clear hb
  go_wp2_with fail
  obtain ⟨b, Hb⟩ : ∃ x, Hid (w0.heap.size = x) := ⟨_, Lib.hid rfl⟩
  obtain ⟨w1, Hw1⟩ : ∃ x, Hid (w0.alloc (.cells #[.slice none 0 0, .slice none 0 0] 26) = x) := ⟨_, Lib.hid rfl⟩
  have X1 : Hid (BoxQ w1 b [] []) := Lib.hid (by rw [← Hw1.out, ← Hb.out]; exact BoxQ.new w0)
  have B1 : Hid (Below W.heap.size W w1) := Lib.hid (by rw [← Hw1.out]; exact balloc B0.out _)
  have HbW : Hid (W.heap.size ≤ b) := Lib.hid (by rw [← Hb.out]; exact B0.out.size)
  rw [Hw1.out, Hb.out]
  go_loopw [5, 6, 7, 8, 9, 10, 11, 12, 13, 14] (fun i _ _ _ _ _ _ _ _ _ wr => ∃ (k : Nat) (h ws : List Cl), i = .int .i64 (k : Int) ∧ k ≤ 80 ∧ Hid (OkQ h ws) ∧ Hid (BoxQ wr b h ws) ∧ Hid (Below W.heap.size W wr)) (fun i _ _ _ _ _ _ _ _ _ _ => 80 - (intOf i).toNat)
  case atStart => exact ⟨0, [], [], rfl, by omega, Lib.hid ok_empty, X1, B1⟩
  case round =>
    obtain ⟨k, h, ws, rfl, hk, OK, X, HB⟩ := hrel
    by_cases hlt : k < len ∧ k < 80
    · obtain ⟨A, n, c, A2, n2, c2, a0, a1, q1, q2⟩ := X.out.is
      have Q := Lib.hid (And.intro q1 q2)
      have OK8 := ok_eight OK.out
      have hbl := X.out.lt
      clear q1 q2
      have i1 : (k : Int) < (len : Int) := by omega
      have i2 : (k : Int) < 80 := by omega
      obtain ⟨bo, off, rfl, hat⟩ := Hop.out.at HB.out hlt.1
      have ck := hat.kind
      have cn := hat.node
      have cm := hat.mode
      have hbo := lt_of_cell ck
      obtain ⟨o, Ho⟩ : ∃ o, Hid (vs k = o) := ⟨_, Lib.hid rfl⟩
      rw [Ho.out] at ck cn cm
      clear hlt hat
      obtain ⟨z, Hz⟩ : ∃ z, Hid (o.node = z) := ⟨_, Lib.hid rfl⟩
      rw [Hz.out] at cn
      obtain ⟨po, Hpo⟩ : ∃ x, Hid (wr.heap.size = x) := ⟨_, Lib.hid rfl⟩
      obtain ⟨WO, HWO⟩ : ∃ x, Hid (((wr.alloc (.cells #[.int .i64 o.kind, .int .i64 z, .int .i64 o.mode] 28)).alloc (.cells #[.slice A n c, .slice A2 n2 c2] 26)) = x) := ⟨_, Lib.hid rfl⟩
      have BO : Below wr.heap.size wr WO := by rw [← HWO.out]; exact balloc (balloc (Below.refl _ _) _) _
      have XH : Hid (BoxQ WO (po + 1) h ws) := Lib.hid (by rw [← HWO.out] at BO ⊢; rw [← Hpo.out]; exact ⟨⟨A, n, c, A2, n2, c2, by simp [go_sem], by simp [go_sem], Q.out.1.below BO, Q.out.2.below BO⟩, by simp [go_sem], by simp [go_sem]⟩)
      have FO : Hid (WO.cell? ⟨po, 1, none⟩ = some (.int .i64 z)) := Lib.hid (by rw [← HWO.out, ← Hpo.out]; simp [go_sem])
      have HMo : Hid (WO.cell? ⟨po, 2, none⟩ = some (.int .i64 o.mode)) := Lib.hid (by rw [← HWO.out, ← Hpo.out]; simp [go_sem])
      have hpob : b < po := by have := Hpo.out; omega
      obtain ⟨r, hr⟩ : ∃ r, o.kind.tmod 6 = r := ⟨_, rfl⟩
      go_upto_if 35 with fail
      rw [HWO.out, Hpo.out]
      go_cut [9] (fun s wx => ∃ v : Int, s = .int .i64 v ∧ wx = WO)
      case first =>
        by_cases hneg : r < 0
        · go_wp2_with fail
          go_meet
          case rel => exact ⟨_, rfl, rfl⟩
        · go_wp2_with fail
          go_meet
          case rel => exact ⟨_, rfl, rfl⟩
      case rest =>
      obtain ⟨v, rfl, rfl⟩ := hcut
      clear hr
      have a0w := (BO.cell (p := ⟨b, 0, none⟩) hbl).trans a0
      have a1w := (BO.cell (p := ⟨b, 1, none⟩) hbl).trans a1
      have cnw := FO.out
      have Mow := HMo.out
      go_upto_block 2 with (fail)
      go_cut [8] (fun T wx => ∃ (h2 ws2 T2 : List Cl) (At : Option Addr) (nt ct : Nat), T = .slice At nt ct ∧ Hid (Chg z ws h2 ws2 T2) ∧ Hid (BoxQ wx b h2 ws2) ∧ Hid (Below W.heap.size W wx) ∧ Hid (BoxQ wx (po + 1) h ws) ∧ Hid (wx.cell? ⟨po, 1, none⟩ = some (.int .i64 z)) ∧ Hid (IsC wx At nt T2))
      case first =>
        cases h3 : (v == 3) with
        | true =>
          go_wp2_with fail
          refine (Drop_any _ (.agg #[.slice A n c, .slice A2 n2 c2]) h ws ⟨A, n, c, A2, n2, c2, rfl, Q.out.1.below BO, Q.out.2.below BO⟩ OK.out (by omega) (by omega) z o.mode).mono ?_
          rintro e u ⟨v', T, rfl, hq, hs, hb⟩
          obtain ⟨Bx, mx, dx, By, my, dy, rfl, j1, j2⟩ := hq.is
          obtain ⟨At, nt, ct, rfl, t1⟩ := hs.is
          have BU : Hid (Below wr.heap.size wr u) := Lib.hid (bnext BO hb)
          have Y := Lib.hid (X.out.below BU.out)
          have z0 := (BU.out.cell (p := ⟨b, 0, none⟩) hbl).trans a0
          have z1 := (BU.out.cell (p := ⟨b, 1, none⟩) hbl).trans a1
          have f0 := Y.out.f0
          have f1 := Y.out.f1
          have hbu := Y.out.lt
          have XE : Hid (BoxQ ((u.setCell ⟨b, 0, none⟩ (.slice Bx mx dx)).setCell ⟨b, 1, none⟩ (.slice By my dy)) b (newH .drop h ws z o.mode) (newW .drop h ws z o.mode)) := Lib.hid (Y.out.set j1 j2)
          have BE : Hid (Below W.heap.size W ((u.setCell ⟨b, 0, none⟩ (.slice Bx mx dx)).setCell ⟨b, 1, none⟩ (.slice By my dy))) := Lib.hid (setQ_below (bnext HB.out BU.out) HbW.out _ _)
          have OKE := Lib.hid (new_ok .drop OK.out z o.mode)
          have XHE : Hid (BoxQ ((u.setCell ⟨b, 0, none⟩ (.slice Bx mx dx)).setCell ⟨b, 1, none⟩ (.slice By my dy)) (po + 1) h ws) := Lib.hid (Y.out.other (XH.out.below hb) (by omega) _ _)
          have FOE : Hid (((u.setCell ⟨b, 0, none⟩ (.slice Bx mx dx)).setCell ⟨b, 1, none⟩ (.slice By my dy)).cell? ⟨po, 1, none⟩ = some (.int .i64 z)) := Lib.hid (((setQ_mod u b _ _).cell (p := ⟨po, 1, none⟩) (Nat.lt_of_lt_of_le (lt_of_cell FO.out) hb.size) (by show po ≠ b; omega)).trans ((hb.cell (p := ⟨po, 1, none⟩) (lt_of_cell FO.out)).trans FO.out))
          have STE : Hid (IsC ((u.setCell ⟨b, 0, none⟩ (.slice Bx mx dx)).setCell ⟨b, 1, none⟩ (.slice By my dy)) At nt (newT .drop h ws z o.mode)) := Lib.hid (Y.out.kp _ _ _ _ _ t1)
          have CHE := Lib.hid (chg_new .drop OK.out z o.mode)
          clear hq hs hb t1 j1 j2
          go_wp2
          go_meet
          case rel => exact ⟨_, _, _, At, nt, ct, rfl, CHE, XE, BE, XHE, FOE, STE⟩
        | false =>
          cases h4 : (v == 4) with
          | true =>
            go_wp2_with fail
            refine (Drop_any _ (.agg #[.slice A n c, .slice A2 n2 c2]) h ws ⟨A, n, c, A2, n2, c2, rfl, Q.out.1.below BO, Q.out.2.below BO⟩ OK.out (by omega) (by omega) z o.mode).mono ?_
            rintro e u ⟨v', T, rfl, hq, hs, hb⟩
            obtain ⟨Bx, mx, dx, By, my, dy, rfl, j1, j2⟩ := hq.is
            obtain ⟨At, nt, ct, rfl, t1⟩ := hs.is
            have BU : Hid (Below wr.heap.size wr u) := Lib.hid (bnext BO hb)
            have Y := Lib.hid (X.out.below BU.out)
            have z0 := (BU.out.cell (p := ⟨b, 0, none⟩) hbl).trans a0
            have z1 := (BU.out.cell (p := ⟨b, 1, none⟩) hbl).trans a1
            have f0 := Y.out.f0
            have f1 := Y.out.f1
            have hbu := Y.out.lt
            have XE : Hid (BoxQ ((u.setCell ⟨b, 0, none⟩ (.slice Bx mx dx)).setCell ⟨b, 1, none⟩ (.slice By my dy)) b (newH .drop h ws z o.mode) (newW .drop h ws z o.mode)) := Lib.hid (Y.out.set j1 j2)
            have BE : Hid (Below W.heap.size W ((u.setCell ⟨b, 0, none⟩ (.slice Bx mx dx)).setCell ⟨b, 1, none⟩ (.slice By my dy))) := Lib.hid (setQ_below (bnext HB.out BU.out) HbW.out _ _)
            have OKE := Lib.hid (new_ok .drop OK.out z o.mode)
            have XHE : Hid (BoxQ ((u.setCell ⟨b, 0, none⟩ (.slice Bx mx dx)).setCell ⟨b, 1, none⟩ (.slice By my dy)) (po + 1) h ws) := Lib.hid (Y.out.other (XH.out.below hb) (by omega) _ _)
            have FOE : Hid (((u.setCell ⟨b, 0, none⟩ (.slice Bx mx dx)).setCell ⟨b, 1, none⟩ (.slice By my dy)).cell? ⟨po, 1, none⟩ = some (.int .i64 z)) := Lib.hid (((setQ_mod u b _ _).cell (p := ⟨po, 1, none⟩) (Nat.lt_of_lt_of_le (lt_of_cell FO.out) hb.size) (by show po ≠ b; omega)).trans ((hb.cell (p := ⟨po, 1, none⟩) (lt_of_cell FO.out)).trans FO.out))
            have STE : Hid (IsC ((u.setCell ⟨b, 0, none⟩ (.slice Bx mx dx)).setCell ⟨b, 1, none⟩ (.slice By my dy)) At nt (newT .drop h ws z o.mode)) := Lib.hid (Y.out.kp _ _ _ _ _ t1)
            have CHE := Lib.hid (chg_new .drop OK.out z o.mode)
            clear hq hs hb t1 j1 j2
            go_wp2
            go_meet
            case rel => exact ⟨_, _, _, At, nt, ct, rfl, CHE, XE, BE, XHE, FOE, STE⟩
          | false =>
            cases h5 : (v == 5) with
            | true =>
              go_wp2_with fail
              refine (Leave_any _ (.agg #[.slice A n c, .slice A2 n2 c2]) h ws ⟨A, n, c, A2, n2, c2, rfl, Q.out.1.below BO, Q.out.2.below BO⟩ OK.out (by omega) (by omega) z).mono ?_
              rintro e u ⟨v', T, rfl, hq, hs, hb⟩
              obtain ⟨Bx, mx, dx, By, my, dy, rfl, j1, j2⟩ := hq.is
              obtain ⟨At, nt, ct, rfl, t1⟩ := hs.is
              have BU : Hid (Below wr.heap.size wr u) := Lib.hid (bnext BO hb)
              have Y := Lib.hid (X.out.below BU.out)
              have z0 := (BU.out.cell (p := ⟨b, 0, none⟩) hbl).trans a0
              have z1 := (BU.out.cell (p := ⟨b, 1, none⟩) hbl).trans a1
              have f0 := Y.out.f0
              have f1 := Y.out.f1
              have hbu := Y.out.lt
              have XE : Hid (BoxQ ((u.setCell ⟨b, 0, none⟩ (.slice Bx mx dx)).setCell ⟨b, 1, none⟩ (.slice By my dy)) b (newH .leave h ws z 0) (newW .leave h ws z 0)) := Lib.hid (Y.out.set j1 j2)
              have BE : Hid (Below W.heap.size W ((u.setCell ⟨b, 0, none⟩ (.slice Bx mx dx)).setCell ⟨b, 1, none⟩ (.slice By my dy))) := Lib.hid (setQ_below (bnext HB.out BU.out) HbW.out _ _)
              have OKE := Lib.hid (new_ok .leave OK.out z 0)
              have XHE : Hid (BoxQ ((u.setCell ⟨b, 0, none⟩ (.slice Bx mx dx)).setCell ⟨b, 1, none⟩ (.slice By my dy)) (po + 1) h ws) := Lib.hid (Y.out.other (XH.out.below hb) (by omega) _ _)
              have FOE : Hid (((u.setCell ⟨b, 0, none⟩ (.slice Bx mx dx)).setCell ⟨b, 1, none⟩ (.slice By my dy)).cell? ⟨po, 1, none⟩ = some (.int .i64 z)) := Lib.hid (((setQ_mod u b _ _).cell (p := ⟨po, 1, none⟩) (Nat.lt_of_lt_of_le (lt_of_cell FO.out) hb.size) (by show po ≠ b; omega)).trans ((hb.cell (p := ⟨po, 1, none⟩) (lt_of_cell FO.out)).trans FO.out))
              have STE : Hid (IsC ((u.setCell ⟨b, 0, none⟩ (.slice Bx mx dx)).setCell ⟨b, 1, none⟩ (.slice By my dy)) At nt (newT .leave h ws z 0)) := Lib.hid (Y.out.kp _ _ _ _ _ t1)
              have CHE := Lib.hid (chg_new .leave OK.out z 0)
              clear hq hs hb t1 j1 j2
              go_wp2
              go_meet
              case rel => exact ⟨_, _, _, At, nt, ct, rfl, CHE, XE, BE, XHE, FOE, STE⟩
            | false =>
              go_wp2_with fail
              refine (Want_any _ (.agg #[.slice A n c, .slice A2 n2 c2]) h ws ⟨A, n, c, A2, n2, c2, rfl, Q.out.1.below BO, Q.out.2.below BO⟩ OK.out (by omega) (by omega) z o.mode).mono ?_
              rintro e u ⟨v', T, rfl, hq, hs, hb⟩
              obtain ⟨Bx, mx, dx, By, my, dy, rfl, j1, j2⟩ := hq.is
              obtain ⟨At, nt, ct, rfl, t1⟩ := hs.is
              have BU : Hid (Below wr.heap.size wr u) := Lib.hid (bnext BO hb)
              have Y := Lib.hid (X.out.below BU.out)
              have z0 := (BU.out.cell (p := ⟨b, 0, none⟩) hbl).trans a0
              have z1 := (BU.out.cell (p := ⟨b, 1, none⟩) hbl).trans a1
              have f0 := Y.out.f0
              have f1 := Y.out.f1
              have hbu := Y.out.lt
              have XE : Hid (BoxQ ((u.setCell ⟨b, 0, none⟩ (.slice Bx mx dx)).setCell ⟨b, 1, none⟩ (.slice By my dy)) b (newH .want h ws z o.mode) (newW .want h ws z o.mode)) := Lib.hid (Y.out.set j1 j2)
              have BE : Hid (Below W.heap.size W ((u.setCell ⟨b, 0, none⟩ (.slice Bx mx dx)).setCell ⟨b, 1, none⟩ (.slice By my dy))) := Lib.hid (setQ_below (bnext HB.out BU.out) HbW.out _ _)
              have OKE := Lib.hid (new_ok .want OK.out z o.mode)
              have XHE : Hid (BoxQ ((u.setCell ⟨b, 0, none⟩ (.slice Bx mx dx)).setCell ⟨b, 1, none⟩ (.slice By my dy)) (po + 1) h ws) := Lib.hid (Y.out.other (XH.out.below hb) (by omega) _ _)
              have FOE : Hid (((u.setCell ⟨b, 0, none⟩ (.slice Bx mx dx)).setCell ⟨b, 1, none⟩ (.slice By my dy)).cell? ⟨po, 1, none⟩ = some (.int .i64 z)) := Lib.hid (((setQ_mod u b _ _).cell (p := ⟨po, 1, none⟩) (Nat.lt_of_lt_of_le (lt_of_cell FO.out) hb.size) (by show po ≠ b; omega)).trans ((hb.cell (p := ⟨po, 1, none⟩) (lt_of_cell FO.out)).trans FO.out))
              have STE : Hid (IsC ((u.setCell ⟨b, 0, none⟩ (.slice Bx mx dx)).setCell ⟨b, 1, none⟩ (.slice By my dy)) At nt (newT .want h ws z o.mode)) := Lib.hid (Y.out.kp _ _ _ _ _ t1)
              have CHE := Lib.hid (chg_new .want OK.out z o.mode)
              clear hq hs hb t1 j1 j2
              go_wp2
              go_meet
              case rel => exact ⟨_, _, _, At, nt, ct, rfl, CHE, XE, BE, XHE, FOE, STE⟩
      case rest =>
        obtain ⟨h2, ws2, T2, At, nt, ct, rfl, CH, XC, BC, XHC, FC, ST⟩ := hcut
        clear X HB OK OK8 hk
        obtain ⟨A, n, c, A2, n2, c2, a0, a1, q1, q2⟩ := XC.out.is
        obtain ⟨A3, n3, c3, A4, n4, c4, b0, b1, q3, q4⟩ := XHC.out.is
        have Ya0 := Lib.hid a0
        have Ya1 := Lib.hid a1
        have Yh0 := Lib.hid b0
        have Yh1 := Lib.hid b1
        have QC := Lib.hid (And.intro q1 q2)
        have QH := Lib.hid (And.intro q3 q4)
        have hbU := XC.out.lt
        have hpU := XHC.out.lt
        have Hsf : Hid (safeB h2 = true) := Lib.hid (by simpa [safeB] using CH.out.ok.safe)
        clear q1 q2 q3 q4 b0 b1
        go_wp2_with fail
        refine (SafeR_any wc A n c h2 QC.out.1).mono ?_
        rw [Hsf.out]
        rintro e u1 ⟨rfl, hb⟩
        have D1 := Lib.hid hb
        have e0 := (hb.cell (p := ⟨b, 0, none⟩) hbU).trans a0
        have e1 := (hb.cell (p := ⟨b, 1, none⟩) hbU).trans a1
        clear hb a0 a1
        go_wp2_with fail
        refine (Check_any u1 (.agg #[.slice A n c, .slice A2 n2 c2]) h2 ws2 ⟨_, _, _, _, _, _, rfl, QC.out.1.below D1.out, QC.out.2.below D1.out⟩ CH.out.ok).mono ?_
        rintro e u2 ⟨rfl, hb⟩
        have D2 := Lib.hid (bnext D1.out hb)
        clear hb e0 e1
        go_wp2_with fail
        go_loopw [11] (fun i wi => ∃ (j : Nat), i = .int .i64 (j : Int) ∧ j ≤ nt ∧ Hid (Below wc.heap.size wc wi)) (fun i _ => nt - (intOf i).toNat)
        case atStart => exact ⟨0, rfl, by omega, D2⟩
        case round =>
          obtain ⟨j, rfl, hj, BI⟩ := hrel
          have hnt := ST.out.small
          by_cases hjn : j < nt
          · have hjn' : (j : Int) < (nt : Int) := by omega
            obtain ⟨c9, hc9⟩ : ∃ y, T2[j]? = some y := ⟨_, List.getElem?_eq_getElem (by rw [ST.out.length]; exact hjn)⟩
            have Ht := Lib.hid (CH.out.told c9 (List.mem_of_getElem? hc9))
            have Ht1 := Lib.hid Ht.out.1
            obtain ⟨g, o2, rfl, hg, hcs⟩ := (ST.out.below BI.out).cells (by omega)
            obtain ⟨c0, c1⟩ := hcs j c9 hc9
            have e0 : ∀ y : In (Abv wr), y.u.cell? ⟨g, o2 + j * 2, none⟩ = some (.int .i64 c9.1) := fun y => (y.is.cell (p := ⟨g, o2 + j * 2, none⟩) hg).trans c0
            have e1 : ∀ y : In (Abv wr), y.u.cell? ⟨g, o2 + j * 2 + 1, none⟩ = some (.int .i64 c9.2) := fun y => (y.is.cell (p := ⟨g, o2 + j * 2 + 1, none⟩) hg).trans c1
            have hmm : (c9.2 != c9.2) = false := bne_no rfl
            clear hcs hc9 c0 c1
            have hbr : b < wr.heap.size := Nat.lt_of_lt_of_le hbU BI.out.size
            have hpr : po + 1 < wr.heap.size := Nat.lt_of_lt_of_le hpU BI.out.size
            have k0 := (BI.out.cell (p := ⟨b, 0, none⟩) hbU).trans Ya0.out
            have k1 := (BI.out.cell (p := ⟨b, 1, none⟩) hbU).trans Ya1.out
            have k2 := (BI.out.cell (p := ⟨po + 1, 0, none⟩) hpU).trans Yh0.out
            have k3 := (BI.out.cell (p := ⟨po + 1, 1, none⟩) hpU).trans Yh1.out
            have k4 := (BI.out.cell (p := ⟨po, 1, none⟩) (by show po < _; omega)).trans FC.out
            have r0 : ∀ y : In (Abv wr), y.u.cell? ⟨b, 0, none⟩ = some (.slice A n c) := fun y => (y.is.cell (p := ⟨b, 0, none⟩) hbr).trans k0
            have r1 : ∀ y : In (Abv wr), y.u.cell? ⟨b, 1, none⟩ = some (.slice A2 n2 c2) := fun y => (y.is.cell (p := ⟨b, 1, none⟩) hbr).trans k1
            have r2 : ∀ y : In (Abv wr), y.u.cell? ⟨po + 1, 0, none⟩ = some (.slice A3 n3 c3) := fun y => (y.is.cell (p := ⟨po + 1, 0, none⟩) hpr).trans k2
            have r3 : ∀ y : In (Abv wr), y.u.cell? ⟨po + 1, 1, none⟩ = some (.slice A4 n4 c4) := fun y => (y.is.cell (p := ⟨po + 1, 1, none⟩) hpr).trans k3
            have r4 : ∀ y : In (Abv wr), y.u.cell? ⟨po, 1, none⟩ = some (.int .i64 z) := fun y => (y.is.cell (p := ⟨po, 1, none⟩) (by show po < _; omega)).trans k4
            clear k0 k1 k2 k3 k4
            by_cases hez : c9.1 = z
            · have hbz := bne_no hez
              clear hez
              go_wp2_with fail
              refine wp_region_mix (by kernel_rfl) (Cls (Abv wr)) [(0, 0), (1, 0), (2, 0), (3, 0), (4, 0), (5, 0), (7, 0), (8, 0), (9, 0), (10, 0), (11, 0), (6, 1), (12, 0), (13, 0), (14, 0), (15, 0), (16, 0), (17, 0), (18, 0), (19, 0), (20, 0), (21, 0), (22, 0), (23, 0), (24, 0), (25, 0), (26, 0), (27, 0), (28, 0), (30, 0), (31, 0), (32, 0), (33, 0), (34, 0), (29, 1), (35, 0), (36, 0), (37, 0)] (by kernel_rfl) (cls (Below.refl _ wr).drew) ?_
              repeat (refine mix0 rfl (fun K hK => ?_); go_simp; refine hK _ ?_; clear hK K)
              refine mix1 rfl (fun K hK => ?_)
              go_simp
              refine (Mode_any wr.drew (.agg #[.slice A n c, .slice A2 n2 c2]) h2 ws2 ⟨_, _, _, _, _, _, rfl, (QC.out.1.below BI.out).below (drew_same wr), (QC.out.2.below BI.out).below (drew_same wr)⟩ c9.1).mono ?_
              rw [Ht1.out]
              rintro e wa ⟨rfl, hb7⟩
              have Bwa : Hid (Abv wr wa) := Lib.hid (bnext (drew_same wr) hb7)
              clear hb7
              refine ⟨_, rfl, hK _ _ (cls Bwa.out) ?_⟩
              clear hK K
              repeat (refine mix0 rfl (fun K hK => ?_); go_simp; refine hK _ ?_; clear hK K)
              refine mix1 rfl (fun K hK => ?_)
              go_simp
              refine hK _ _ (cls Bwa.out) ?_
              clear hK K
              repeat (refine mix0 rfl (fun K hK => ?_); go_simp; refine hK _ ?_; clear hK K)
              refine mixEnd ?_
              have BE := Lib.hid (bnext BI.out Bwa.out)
              clear r0 r1 r2 r3 r4 e0 e1
              go_wp2
              go_roundw
              case rel => exact ⟨j + 1, by go_num, by omega, BE⟩
              case measure => simp [intOf]; omega
            · have hbz := bne_yes hez
              have Ht2 := Lib.hid (Ht.out.2 hez)
              clear hez
              go_wp2_with fail
              refine wp_region_mix (by kernel_rfl) (Cls (Abv wr)) [(0, 0), (1, 0), (2, 0), (3, 0), (4, 0), (5, 0), (7, 0), (8, 0), (9, 0), (10, 0), (11, 0), (6, 1), (12, 0), (13, 0), (14, 0), (15, 0), (16, 0), (17, 0), (18, 0), (19, 0), (20, 0), (21, 0), (22, 0), (23, 0), (24, 0), (25, 0), (26, 0), (27, 0), (28, 0), (30, 0), (31, 0), (32, 0), (33, 0), (34, 0), (29, 1), (35, 0), (36, 0), (37, 0)] (by kernel_rfl) (cls (Below.refl _ wr).drew) ?_
              repeat (refine mix0 rfl (fun K hK => ?_); go_simp; refine hK _ ?_; clear hK K)
              refine mix1 rfl (fun K hK => ?_)
              go_simp
              refine (Mode_any wr.drew (.agg #[.slice A n c, .slice A2 n2 c2]) h2 ws2 ⟨_, _, _, _, _, _, rfl, (QC.out.1.below BI.out).below (drew_same wr), (QC.out.2.below BI.out).below (drew_same wr)⟩ c9.1).mono ?_
              rw [Ht1.out]
              rintro e wa ⟨rfl, hb7⟩
              have Bwa : Hid (Abv wr wa) := Lib.hid (bnext (drew_same wr) hb7)
              clear hb7
              refine ⟨_, rfl, hK _ _ (cls Bwa.out) ?_⟩
              clear hK K
              repeat (refine mix0 rfl (fun K hK => ?_); go_simp; refine hK _ ?_; clear hK K)
              refine mix1 rfl (fun K hK => ?_)
              go_simp
              refine (Waiting_any wa (.agg #[.slice A3 n3 c3, .slice A4 n4 c4]) h ws ⟨_, _, _, _, _, _, rfl, (QH.out.1.below BI.out).below Bwa.out, (QH.out.2.below BI.out).below Bwa.out⟩ c9.1).mono ?_
              rw [Ht2.out]
              rintro e wb ⟨rfl, hb7⟩
              have Bwb : Hid (Abv wr wb) := Lib.hid (bnext Bwa.out hb7)
              clear hb7
              refine ⟨_, rfl, hK _ _ (cls Bwb.out) ?_⟩
              clear hK K
              repeat (refine mix0 rfl (fun K hK => ?_); go_simp; refine hK _ ?_; clear hK K)
              refine mixEnd ?_
              have BE := Lib.hid (bnext BI.out Bwb.out)
              clear r0 r1 r2 r3 r4 e0 e1
              go_wp2
              go_roundw
              case rel => exact ⟨j + 1, by go_num, by omega, BE⟩
              case measure => simp [intOf]; omega
          · have hjn' : ¬ (j : Int) < (nt : Int) := by omega
            have h40 : n4 = ws.length := QH.out.2.length.symm
            have hn4 := QH.out.2.small
            have k3 := (BI.out.cell (p := ⟨po + 1, 1, none⟩) hpU).trans Yh1.out
            go_wp2_with fail
            clear k3
            go_loopw [12, 13, 14] (fun s i _ wi => ∃ (j a : Nat), i = .int .i64 (j : Int) ∧ s = .int .i64 (a : Int) ∧ a ≤ j ∧ j ≤ n4 ∧ Hid (0 < a → ∃ i, i < j ∧ ∃ y, ws[i]? = some y ∧ y.1 ≠ z ∧ modeM ws2 y.1 ≠ 0) ∧ Hid (Below wc.heap.size wc wi)) (fun _ i _ _ => n4 - (intOf i).toNat)
            case atStart => exact ⟨0, 0, rfl, rfl, by omega, by omega, Lib.hid (fun h => by omega), BI⟩
            case round =>
              obtain ⟨j, a, rfl, rfl, ha, hj, HA, BI⟩ := hrel
              have hbr : b < wr.heap.size := Nat.lt_of_lt_of_le hbU BI.out.size
              have hpr : po + 1 < wr.heap.size := Nat.lt_of_lt_of_le hpU BI.out.size
              have k0 := (BI.out.cell (p := ⟨b, 0, none⟩) hbU).trans Ya0.out
              have k1 := (BI.out.cell (p := ⟨b, 1, none⟩) hbU).trans Ya1.out
              have k2 := (BI.out.cell (p := ⟨po + 1, 0, none⟩) hpU).trans Yh0.out
              have k3 := (BI.out.cell (p := ⟨po + 1, 1, none⟩) hpU).trans Yh1.out
              have k4 := (BI.out.cell (p := ⟨po, 1, none⟩) (by show po < _; omega)).trans FC.out
              have r0 : ∀ y : In (Abv wr), y.u.cell? ⟨b, 0, none⟩ = some (.slice A n c) := fun y => (y.is.cell (p := ⟨b, 0, none⟩) hbr).trans k0
              have r1 : ∀ y : In (Abv wr), y.u.cell? ⟨b, 1, none⟩ = some (.slice A2 n2 c2) := fun y => (y.is.cell (p := ⟨b, 1, none⟩) hbr).trans k1
              have r2 : ∀ y : In (Abv wr), y.u.cell? ⟨po + 1, 0, none⟩ = some (.slice A3 n3 c3) := fun y => (y.is.cell (p := ⟨po + 1, 0, none⟩) hpr).trans k2
              have r3 : ∀ y : In (Abv wr), y.u.cell? ⟨po + 1, 1, none⟩ = some (.slice A4 n4 c4) := fun y => (y.is.cell (p := ⟨po + 1, 1, none⟩) hpr).trans k3
              have r4 : ∀ y : In (Abv wr), y.u.cell? ⟨po, 1, none⟩ = some (.int .i64 z) := fun y => (y.is.cell (p := ⟨po, 1, none⟩) (by show po < _; omega)).trans k4
              by_cases hjn : j < n4
              · have hjn' : (j : Int) < (n4 : Int) := by omega
                obtain ⟨c9, hc9⟩ : ∃ y, ws[j]? = some y := ⟨_, List.getElem?_eq_getElem (by omega)⟩
                have Hc9 := Lib.hid hc9
                obtain ⟨g, o2, rfl, hg, hcs⟩ := (QH.out.2.below BI.out).cells (by omega)
                obtain ⟨c0, c1⟩ := hcs j c9 hc9
                have e0 : ∀ y : In (Abv wr), y.u.cell? ⟨g, o2 + j * 2, none⟩ = some (.int .i64 c9.1) := fun y => (y.is.cell (p := ⟨g, o2 + j * 2, none⟩) hg).trans c0
                have e1 : ∀ y : In (Abv wr), y.u.cell? ⟨g, o2 + j * 2 + 1, none⟩ = some (.int .i64 c9.2) := fun y => (y.is.cell (p := ⟨g, o2 + j * 2 + 1, none⟩) hg).trans c1
                clear hcs hc9 h40
                by_cases hez : c9.1 = z
                · have hbz : (c9.1 == z) = true := by simpa using hez
                  clear hez
                  have HA' : Hid (0 < a → ∃ i, i < j + 1 ∧ ∃ y, ws[i]? = some y ∧ y.1 ≠ z ∧ modeM ws2 y.1 ≠ 0) := Lib.hid (fun h => by
                    obtain ⟨i, hi, y, hy⟩ := HA.out h
                    exact ⟨i, by omega, y, hy⟩)
                  clear r0 r1 r2 r3 r4 e0 e1
                  go_wp2
                  go_roundw
                  case rel => exact ⟨j + 1, a, by go_num, rfl, by omega, by omega, HA', BI⟩
                  case measure => simp [intOf]; omega
                · have hbz : (c9.1 == z) = false := by simpa using hez
                  obtain ⟨w9, Hw⟩ : ∃ x, Hid (modeM ws2 c9.1 = x) := ⟨_, Lib.hid rfl⟩
                  by_cases hw0 : w9 = 0
                  · subst hw0
                    have ha0 : a = 0 := by
                      rcases Nat.eq_zero_or_pos a with h | h
                      · exact h
                      · exfalso
                        obtain ⟨i, hi, y, hy, hyz, hy0⟩ := HA.out h
                        obtain ⟨l1, e1⟩ := List.getElem?_eq_some_iff.1 hy
                        obtain ⟨l2, e2⟩ := List.getElem?_eq_some_iff.1 Hc9.out
                        have := List.pairwise_iff_getElem.1 CH.out.order i j l1 l2 hi
                        rw [e1, e2] at this
                        exact hy0 (this hyz hez Hw.out)
                    subst ha0
                    have Hg := Lib.hid (CH.out.gone c9 (List.mem_of_getElem? Hc9.out) hez Hw.out)
                    have hmm : (c9.2 != c9.2) = false := bne_no rfl
                    clear hez
                    go_wp2_with fail
                    clear k0 k1 k2 k3 k4
                    refine wp_region_mix (by kernel_rfl) (Cls (Abv wr)) [(0, 0), (1, 0), (2, 1), (3, 0), (4, 0), (5, 0), (6, 0), (7, 0), (8, 0), (9, 0), (10, 0), (11, 1), (12, 0), (13, 0), (14, 0), (15, 0), (17, 0), (18, 0), (19, 0), (20, 0), (21, 0), (22, 0), (16, 1), (23, 0), (24, 0), (25, 0)] (by kernel_rfl) (cls (Below.refl _ wr).drew) ?_
                    repeat (refine mix0 rfl (fun K hK => ?_); go_simp; refine hK _ ?_; clear hK K)
                    refine mix1 rfl (fun K hK => ?_)
                    go_simp
                    refine (Waiting_any wr.drew (.agg #[.slice A n c, .slice A2 n2 c2]) h2 ws2 ⟨_, _, _, _, _, _, rfl, (QC.out.1.below BI.out).below (drew_same wr), (QC.out.2.below BI.out).below (drew_same wr)⟩ c9.1).mono ?_
                    rw [Hw.out]
                    rintro e wa ⟨rfl, hb7⟩
                    have Bwa : Hid (Abv wr wa) := Lib.hid (bnext (drew_same wr) hb7)
                    clear hb7
                    refine ⟨_, rfl, hK _ _ (cls Bwa.out) ?_⟩
                    clear hK K
                    repeat (refine mix0 rfl (fun K hK => ?_); go_simp; refine hK _ ?_; clear hK K)
                    refine mix1 rfl (fun K hK => ?_)
                    go_simp
                    refine (Waiting_any wa (.agg #[.slice A n c, .slice A2 n2 c2]) h2 ws2 ⟨_, _, _, _, _, _, rfl, (QC.out.1.below BI.out).below Bwa.out, (QC.out.2.below BI.out).below Bwa.out⟩ c9.1).mono ?_
                    rw [Hw.out]
                    rintro e wb ⟨rfl, hb7⟩
                    have Bwb : Hid (Abv wr wb) := Lib.hid (bnext Bwa.out hb7)
                    clear hb7
                    refine ⟨_, rfl, hK _ _ (cls Bwb.out) ?_⟩
                    clear hK K
                    repeat (refine mix0 rfl (fun K hK => ?_); go_simp; refine hK _ ?_; clear hK K)
                    refine mix1 rfl (fun K hK => ?_)
                    go_simp
                    refine (Mode_any wb (.agg #[.slice A n c, .slice A2 n2 c2]) h2 ws2 ⟨_, _, _, _, _, _, rfl, (QC.out.1.below BI.out).below Bwb.out, (QC.out.2.below BI.out).below Bwb.out⟩ c9.1).mono ?_
                    rw [Hg.out]
                    rintro e wc ⟨rfl, hb7⟩
                    have Bwc : Hid (Abv wr wc) := Lib.hid (bnext Bwb.out hb7)
                    clear hb7
                    refine ⟨_, rfl, hK _ _ (cls Bwc.out) ?_⟩
                    clear hK K
                    repeat (refine mix0 rfl (fun K hK => ?_); go_simp; refine hK _ ?_; clear hK K)
                    refine mixEnd ?_
                    have k0 := ((Bwc.out).cell (p := ⟨b, 0, none⟩) hbr).trans ((BI.out.cell (p := ⟨b, 0, none⟩) hbU).trans Ya0.out)
                    have k1 := ((Bwc.out).cell (p := ⟨b, 1, none⟩) hbr).trans ((BI.out.cell (p := ⟨b, 1, none⟩) hbU).trans Ya1.out)
                    clear r0 r1 r2 r3 r4 e0 e1
                    go_wp2_with fail
                    refine (Waiting_any wc (.agg #[.slice A n c, .slice A2 n2 c2]) h2 ws2 ⟨_, _, _, _, _, _, rfl, (QC.out.1.below BI.out).below Bwc.out, (QC.out.2.below BI.out).below Bwc.out⟩ c9.1).mono ?_
                    rw [Hw.out]
                    rintro e wz ⟨rfl, hb7⟩
                    have BE := Lib.hid (bnext BI.out (bnext Bwc.out hb7))
                    clear hb7 k0 k1
                    go_wp2
                    go_roundw
                    case rel => exact ⟨j + 1, 0, by go_num, rfl, by omega, by omega, Lib.hid (fun h => by omega), BE⟩
                    case measure => simp [intOf]; omega
                  · have hw1 : (w9 == 0) = false := by simpa using hw0
                    have hw2 : (w9 != 0) = true := by simpa using hw0
                    have Hnew : Hid (0 < a + 1 → ∃ i, i < j + 1 ∧ ∃ y, ws[i]? = some y ∧ y.1 ≠ z ∧ modeM ws2 y.1 ≠ 0) := Lib.hid (fun _ => ⟨j, by omega, c9, Hc9.out, hez, by rw [Hw.out]; exact hw0⟩)
                    clear hez hw0
                    go_wp2_with fail
                    clear k0 k1 k2 k3 k4
                    refine wp_region_mix (by kernel_rfl) (Cls (Abv wr)) [(0, 0), (1, 0), (2, 1), (3, 0), (4, 0), (5, 0), (6, 0), (7, 0), (8, 0), (9, 0), (10, 0), (11, 1), (12, 0), (13, 0), (14, 0), (15, 0), (17, 0), (18, 0), (19, 0), (20, 0), (21, 0), (22, 0), (16, 1), (23, 0), (24, 0), (25, 0)] (by kernel_rfl) (cls (Below.refl _ wr).drew) ?_
                    repeat (refine mix0 rfl (fun K hK => ?_); go_simp; refine hK _ ?_; clear hK K)
                    refine mix1 rfl (fun K hK => ?_)
                    go_simp
                    refine (Waiting_any wr.drew (.agg #[.slice A n c, .slice A2 n2 c2]) h2 ws2 ⟨_, _, _, _, _, _, rfl, (QC.out.1.below BI.out).below (drew_same wr), (QC.out.2.below BI.out).below (drew_same wr)⟩ c9.1).mono ?_
                    rw [Hw.out]
                    rintro e wa ⟨rfl, hb7⟩
                    have Bwa : Hid (Abv wr wa) := Lib.hid (bnext (drew_same wr) hb7)
                    clear hb7
                    refine ⟨_, rfl, hK _ _ (cls Bwa.out) ?_⟩
                    clear hK K
                    repeat (refine mix0 rfl (fun K hK => ?_); go_simp; refine hK _ ?_; clear hK K)
                    refine mix1 rfl (fun K hK => ?_)
                    go_simp
                    refine (Waiting_any wa (.agg #[.slice A n c, .slice A2 n2 c2]) h2 ws2 ⟨_, _, _, _, _, _, rfl, (QC.out.1.below BI.out).below Bwa.out, (QC.out.2.below BI.out).below Bwa.out⟩ c9.1).mono ?_
                    rw [Hw.out]
                    rintro e wb ⟨rfl, hb7⟩
                    have Bwb : Hid (Abv wr wb) := Lib.hid (bnext Bwa.out hb7)
                    clear hb7
                    refine ⟨_, rfl, hK _ _ (cls Bwb.out) ?_⟩
                    clear hK K
                    repeat (refine mix0 rfl (fun K hK => ?_); go_simp; refine hK _ ?_; clear hK K)
                    refine mix1 rfl (fun K hK => ?_)
                    go_simp
                    refine hK _ _ (cls Bwb.out) ?_
                    clear hK K
                    repeat (refine mix0 rfl (fun K hK => ?_); go_simp; refine hK _ ?_; clear hK K)
                    refine mixEnd ?_
                    have k0 := ((Bwb.out).cell (p := ⟨b, 0, none⟩) hbr).trans ((BI.out.cell (p := ⟨b, 0, none⟩) hbU).trans Ya0.out)
                    have k1 := ((Bwb.out).cell (p := ⟨b, 1, none⟩) hbr).trans ((BI.out.cell (p := ⟨b, 1, none⟩) hbU).trans Ya1.out)
                    clear r0 r1 r2 r3 r4 e0 e1
                    go_wp2_with fail
                    refine (Waiting_any wb (.agg #[.slice A n c, .slice A2 n2 c2]) h2 ws2 ⟨_, _, _, _, _, _, rfl, (QC.out.1.below BI.out).below Bwb.out, (QC.out.2.below BI.out).below Bwb.out⟩ c9.1).mono ?_
                    rw [Hw.out]
                    rintro e wz ⟨rfl, hb7⟩
                    have BE := Lib.hid (bnext BI.out (bnext Bwb.out hb7))
                    clear hb7 k0 k1
                    go_wp2
                    go_roundw
                    case rel => exact ⟨j + 1, a + 1, by go_num, by go_num, by omega, by omega, Hnew, BE⟩
                    case measure => simp [intOf]; omega
              · have hjn' : ¬ (j : Int) < (n4 : Int) := by omega
                have BE := Lib.hid (bnext BC.out BI.out)
                have XE := Lib.hid (XC.out.below BI.out)
                have OKE := Lib.hid CH.out.ok
                clear r0 r1 r2 r3 r4 h40
                go_wp2
                go_roundw
                case rel => exact ⟨k + 1, h2, ws2, by go_num, by omega, OKE, XE, BE⟩
                case measure => simp [intOf]; omega
    · have hdone : (¬ (k : Int) < (len : Int)) ∨ ((k : Int) < (len : Int) ∧ ¬ (k : Int) < 80) := by omega
      rcases hdone with i1 | ⟨i1, i2⟩
      all_goals
        clear hlt
        go_wp2
        go_ret
        exact ⟨rfl, HB.out⟩
theorem own : ownKnob Try.prog.godebug = none := by kernel_rfl
theorem laidOut : laidOutB Try.prog = true := by kernel_rfl
set_option maxRecDepth 100000 in
theorem lifted (os : Os) (started : os.Started) (H : Type) (enc : TypeId × Value → H) :
    ReturnsInHanded {} Try.checked os 3 .any (Rows.queueSafeSpec.pre6 enc Try.prog Try.f3 Rows.queueSafeRow.domain false) (Rows.queueSafeSpec.post enc Try.prog Try.f3 false true false false) := by
  refine returnsInHanded_of_change (C := Try.checked) own started (by kernel_rfl) Try.func3
    (ChangeSpec.witness6 (enc := enc) (C := Try.checked) false ⟨#[], #[.slice none 0 0], []⟩ 8 (by kernel_rfl) (by kernel_rfl) (by kernel_rfl) (by kernel_rfl)) ?_
  intro W base args ds gs before hval0 hW hcnd _
  have hval : ∀ (j : Nat) t v, Try.f3.params[j]? = some t → args[j]? = some v → Value.okWide Try.prog W .any base t v := hval0
  have hW' := hW
  obtain ⟨p, q, hA0, hV, rfl, hfz, hnd⟩ := hW
  have hA : DataW.TrodAll enc Try.prog W 0 (fun _ => true) true Try.f3.params.toList args.toList ds p := hA0
  rw [Try.params3] at hA hval
  obtain ⟨v0, vs0, d0, ds0, p0, q0, hargs, rfl, rfl, h0, r0⟩ := trodAll_cons hA
  obtain ⟨rfl, rfl, rfl⟩ := trodAll_nil r0
  obtain rfl : args = #[v0] := by cases args; simp_all
  obtain ⟨x0, len0, cap0, a0, rfl, w0, y0⟩ := opens_ops (hval 0 22 v0 rfl rfl) h0
  clear hA0 hval0
  refine (walk x0 len0 cap0 a0 W w0 y0).mono fun e W' ⟨he, bel⟩ => ?_
  subst he
  exact ⟨_, rfl, law_post laidOut (by rw [Try.params3]; decide +kernel) rfl Try.underlying4 rfl hW' (fun _ => rfl) bel⟩
theorem over : Rows.queueSafeRow.holds Try.pinned (OpenSpec.ofChange Rows.queueSafeSpec) :=
  OpenClaim.holds_of_wide 3 Try.f3 rfl rfl rfl rfl rfl rfl rfl ⟨rfl, rfl, rfl, rfl, rfl⟩ rfl rfl rfl rfl rfl (by kernel_rfl) Try.func3 (by kernel_rfl)
    (of_decide_eq_true (by kernel_rfl)) (by unfold Func.isWrapper; first | (rw [if_pos (by decide +kernel)]; kernel_rfl) | (rw [if_neg (by decide +kernel)]; exact ⟨rfl, rfl⟩))
    (fun os started H enc _ => lifted os started H enc)
theorem proved : Rows.QueueSafeSaid := over
end Go.Proofs.Ytbeoigkjlgimdaa.queueSafe
