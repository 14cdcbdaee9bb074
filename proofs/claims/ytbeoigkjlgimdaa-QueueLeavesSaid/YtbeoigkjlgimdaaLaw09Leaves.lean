/- QueueLeaves: who left has nothing, and does not wait; all others have what they had, or what they waited for; for any changes from nothing on (sixty of them are made), any node. -/
import Derived.Test.YtbeoigkjlgimdaaRows
import Derived.Test.YtbeoigkjlgimdaaPl9

namespace Go.Proofs.Ytbeoigkjlgimdaa.queueLeaves
open Go.RowKit Go.ChangeShapes Go.WideShapes Go.ChangeAt
open Go.ChangeMaps (open_string shut_string)

set_option maxHeartbeats 2000000 in
set_option maxRecDepth 100000 in
theorem walk (x : Option Addr) (len cap : Nat) (vs : Nat → OpV) (node : Int) (W : World) (ho : IsOps W x len vs) (_ : len ≤ cap) (_ : (Lit.int .i64 node).wf = true) :
    Calls Try.prog 6 #[.slice x len cap, .int .i64 node] W fun e W' => e = .returned (.bool true) ∧ Below W.heap.size W W' := by
  have hlen := ho.max
  have Hop := Lib.hid ho
  unfold maxLen at hlen
  clear ho
  go_enter Try.func6, Try.ntmps6
  go_wp2_with fail
  refine (awake_any W).mono ?_
  rintro e w0 ⟨rfl, hb⟩
  have B0 := Lib.hid hb
  clear hb
  go_wp2_with fail
  obtain ⟨b, Hb⟩ : ∃ x, Hid (w0.heap.size = x) := ⟨_, Lib.hid rfl⟩
  obtain ⟨w1, Hw1⟩ : ∃ x, Hid (w0.alloc (.cells #[.slice none 0 0, .slice none 0 0] 26) = x) := ⟨_, Lib.hid rfl⟩
  have X1 : Hid (BoxQ w1 b [] []) := Lib.hid (by rw [← Hw1.out, ← Hb.out]; exact BoxQ.new w0)
  have B1 : Hid (Below W.heap.size W w1) := Lib.hid (by rw [← Hw1.out]; exact balloc B0.out _)
  have HbW : Hid (W.heap.size ≤ b) := Lib.hid (by rw [← Hb.out]; exact B0.out.size)
  rw [Hw1.out, Hb.out]
  go_loopw [7, 8, 9, 10, 11, 12] (fun i _ _ _ _ _ wr => ∃ (k : Nat) (h ws : List Cl), i = .int .i64 (k : Int) ∧ k ≤ 60 ∧ Hid (OkQ h ws) ∧ Hid (BoxQ wr b h ws) ∧ Hid (Below W.heap.size W wr)) (fun i _ _ _ _ _ _ => 60 - (intOf i).toNat)
  case atStart => exact ⟨0, [], [], rfl, by omega, Lib.hid ok_empty, X1, B1⟩
  case round =>
    obtain ⟨k, h, ws, rfl, hk, OK, X, HB⟩ := hrel
    obtain ⟨A, n, c, A2, n2, c2, a0, a1, q1, q2⟩ := X.out.is
    have Q := Lib.hid (And.intro q1 q2)
    have OK8 := ok_eight OK.out
    have hbl := X.out.lt
    clear q1 q2
    by_cases hlt : k < len ∧ k < 60
    · have i1 : (k : Int) < (len : Int) := by omega
      have i2 : (k : Int) < 60 := by omega
      obtain ⟨bo, off, rfl, hat⟩ := Hop.out.at HB.out hlt.1
      have ck := hat.kind
      have cn := hat.node
      have cm := hat.mode
      have hbo := lt_of_cell ck
      obtain ⟨o, Ho⟩ : ∃ o, Hid (vs k = o) := ⟨_, Lib.hid rfl⟩
      rw [Ho.out] at ck cn cm
      have BO : Below wr.heap.size wr (wr.alloc (.cells #[.int .i64 o.kind, .int .i64 o.node, .int .i64 o.mode] 28)) := balloc (Below.refl _ _) _
      clear hlt hat
      cases hr : (o.kind.tmod 3 == 0) with
      | true =>
        go_wp2_with fail
        refine (Drop_any _ (.agg #[.slice A n c, .slice A2 n2 c2]) h ws ⟨A, n, c, A2, n2, c2, rfl, Q.out.1.below BO, Q.out.2.below BO⟩ OK.out (by omega) (by omega) o.node o.mode).mono ?_
        rintro e u ⟨v', T, rfl, hq, hs, hb⟩
        obtain ⟨Bx, mx, dx, By, my, dy, rfl, j1, j2⟩ := hq.is
        obtain ⟨At, nt, ct, rfl, t1⟩ := hs.is
        have BU : Hid (Below wr.heap.size wr u) := Lib.hid (bnext BO hb)
        have Y := Lib.hid (X.out.below BU.out)
        have z0 := (BU.out.cell (p := ⟨b, 0, none⟩) hbl).trans a0
        have z1 := (BU.out.cell (p := ⟨b, 1, none⟩) hbl).trans a1
        have f0 := Y.out.f0
        have f1 := Y.out.f1
        have hbu := Y.out.lt
        have hal : Below ((u.setCell ⟨b, 0, none⟩ (.slice Bx mx dx)).setCell ⟨b, 1, none⟩ (.slice By my dy)).heap.size ((u.setCell ⟨b, 0, none⟩ (.slice Bx mx dx)).setCell ⟨b, 1, none⟩ (.slice By my dy)) (((u.setCell ⟨b, 0, none⟩ (.slice Bx mx dx)).setCell ⟨b, 1, none⟩ (.slice By my dy)).alloc (.cells #[.slice Bx mx dx, .slice By my dy] 26)) := balloc (Below.refl _ _) _
        have YA : BoxQ ((u.setCell ⟨b, 0, none⟩ (.slice Bx mx dx)).setCell ⟨b, 1, none⟩ (.slice By my dy)) b (newH .drop h ws o.node o.mode) (newW .drop h ws o.node o.mode) := Y.out.set j1 j2
        have XE : Hid (BoxQ (((u.setCell ⟨b, 0, none⟩ (.slice Bx mx dx)).setCell ⟨b, 1, none⟩ (.slice By my dy)).alloc (.cells #[.slice Bx mx dx, .slice By my dy] 26)) b (newH .drop h ws o.node o.mode) (newW .drop h ws o.node o.mode)) := Lib.hid (YA.below hal)
        have BE : Hid (Below W.heap.size W (((u.setCell ⟨b, 0, none⟩ (.slice Bx mx dx)).setCell ⟨b, 1, none⟩ (.slice By my dy)).alloc (.cells #[.slice Bx mx dx, .slice By my dy] 26))) := Lib.hid (bnext (setQ_below (bnext HB.out BU.out) HbW.out _ _) hal)
        have OKE := Lib.hid (new_ok .drop OK.out o.node o.mode)
        clear hq hs hb t1 j1 j2 hal YA
        go_wp2
        go_roundw
        case rel => exact ⟨k + 1, _, _, by go_num, by omega, OKE, XE, BE⟩
        case measure => simp [intOf]; omega
      | false =>
        go_wp2_with fail
        refine (Want_any _ (.agg #[.slice A n c, .slice A2 n2 c2]) h ws ⟨A, n, c, A2, n2, c2, rfl, Q.out.1.below BO, Q.out.2.below BO⟩ OK.out (by omega) (by omega) o.node o.mode).mono ?_
        rintro e u ⟨v', T, rfl, hq, hs, hb⟩
        obtain ⟨Bx, mx, dx, By, my, dy, rfl, j1, j2⟩ := hq.is
        obtain ⟨At, nt, ct, rfl, t1⟩ := hs.is
        have BU : Hid (Below wr.heap.size wr u) := Lib.hid (bnext BO hb)
        have Y := Lib.hid (X.out.below BU.out)
        have z0 := (BU.out.cell (p := ⟨b, 0, none⟩) hbl).trans a0
        have z1 := (BU.out.cell (p := ⟨b, 1, none⟩) hbl).trans a1
        have f0 := Y.out.f0
        have f1 := Y.out.f1
        have hbu := Y.out.lt
        have hal : Below ((u.setCell ⟨b, 0, none⟩ (.slice Bx mx dx)).setCell ⟨b, 1, none⟩ (.slice By my dy)).heap.size ((u.setCell ⟨b, 0, none⟩ (.slice Bx mx dx)).setCell ⟨b, 1, none⟩ (.slice By my dy)) (((u.setCell ⟨b, 0, none⟩ (.slice Bx mx dx)).setCell ⟨b, 1, none⟩ (.slice By my dy)).alloc (.cells #[.slice Bx mx dx, .slice By my dy] 26)) := balloc (Below.refl _ _) _
        have YA : BoxQ ((u.setCell ⟨b, 0, none⟩ (.slice Bx mx dx)).setCell ⟨b, 1, none⟩ (.slice By my dy)) b (newH .want h ws o.node o.mode) (newW .want h ws o.node o.mode) := Y.out.set j1 j2
        have XE : Hid (BoxQ (((u.setCell ⟨b, 0, none⟩ (.slice Bx mx dx)).setCell ⟨b, 1, none⟩ (.slice By my dy)).alloc (.cells #[.slice Bx mx dx, .slice By my dy] 26)) b (newH .want h ws o.node o.mode) (newW .want h ws o.node o.mode)) := Lib.hid (YA.below hal)
        have BE : Hid (Below W.heap.size W (((u.setCell ⟨b, 0, none⟩ (.slice Bx mx dx)).setCell ⟨b, 1, none⟩ (.slice By my dy)).alloc (.cells #[.slice Bx mx dx, .slice By my dy] 26))) := Lib.hid (bnext (setQ_below (bnext HB.out BU.out) HbW.out _ _) hal)
        have OKE := Lib.hid (new_ok .want OK.out o.node o.mode)
        clear hq hs hb t1 j1 j2 hal YA
        go_wp2
        go_roundw
        case rel => exact ⟨k + 1, _, _, by go_num, by omega, OKE, XE, BE⟩
        case measure => simp [intOf]; omega
    · have hdone : (¬ (k : Int) < (len : Int)) ∨ ((k : Int) < (len : Int) ∧ ¬ (k : Int) < 60) := by omega
      obtain ⟨kk, Hkk, hk7⟩ := and_small node 7 (.inr rfl)
      have hand := Hkk.out
      rw [show ((7 : Nat) : Int) = 7 from rfl] at hand
      have hth : thereB (kk : Int) = true := by simp [thereB]; omega
      have HG := Lib.hid (leave_gone OK.out hth)
      have HO : Hid (∀ n : Int, n ≠ (kk : Int) → _) := Lib.hid (fun n hn => leave_others OK.out hth hn)
      rcases hdone with i1 | ⟨i1, i2⟩
      all_goals
        clear hlt
        go_wp2_with fail
        refine (Leave_any wr (.agg #[.slice A n c, .slice A2 n2 c2]) h ws ⟨A, n, c, A2, n2, c2, rfl, Q.out.1, Q.out.2⟩ OK.out (by omega) (by omega) (kk : Int)).mono ?_
        rintro e u ⟨v', T, rfl, hq, hs, hb⟩
        obtain ⟨Bx, mx, dx, By, my, dy, rfl, j1, j2⟩ := hq.is
        obtain ⟨At, nt, ct, rfl, t1⟩ := hs.is
        obtain ⟨l2, Hl2⟩ : ∃ l, Hid (newH .leave h ws (kk : Int) 0 = l) := ⟨_, Lib.hid rfl⟩
        obtain ⟨w2, Hw2⟩ : ∃ l, Hid (newW .leave h ws (kk : Int) 0 = l) := ⟨_, Lib.hid rfl⟩
        obtain ⟨T2, HT2⟩ : ∃ l, Hid (newT .leave h ws (kk : Int) 0 = l) := ⟨_, Lib.hid rfl⟩
        have OK2 := new_ok .leave OK.out (kk : Int) 0
        have HG2 := HG.out
        have HO2 := HO.out
        rw [Hl2.out, Hw2.out] at HG2 OK2
        rw [Hl2.out, Hw2.out, HT2.out] at HO2
        rw [Hl2.out] at j1
        rw [Hw2.out] at j2
        rw [HT2.out] at t1
        have HG2 := Lib.hid HG2
        have HO2 := Lib.hid HO2
        have OK2 := Lib.hid OK2
        obtain ⟨U, HU⟩ : ∃ x, Hid (u.alloc (.cells #[.slice Bx mx dx, .slice By my dy] 26) = x) := ⟨_, Lib.hid rfl⟩
        obtain ⟨p2, Hp2⟩ : ∃ x, Hid (u.heap.size = x) := ⟨_, Lib.hid rfl⟩
        have hal : Below u.heap.size u U := by rw [← HU.out]; exact balloc (Below.refl _ _) _
        have BU : Hid (Below W.heap.size W U) := Lib.hid (bnext HB.out (bnext hb hal))
        have XU := Lib.hid (X.out.below (bnext hb hal))
        have Q2 := Lib.hid (And.intro (j1.below hal) (j2.below hal))
        have QT := Lib.hid (t1.below hal)
        have Y0 : Hid (U.cell? ⟨p2, 0, none⟩ = some (.slice Bx mx dx)) := Lib.hid (by rw [← HU.out, ← Hp2.out]; simp [go_sem])
        have Y1 : Hid (U.cell? ⟨p2, 1, none⟩ = some (.slice By my dy)) := Lib.hid (by rw [← HU.out, ← Hp2.out]; simp [go_sem])
        have hpl := lt_of_cell Y0.out
        have Ya0 : Hid (U.cell? ⟨b, 0, none⟩ = some (.slice A n c)) := Lib.hid (((bnext hb hal).cell (p := ⟨b, 0, none⟩) hbl).trans a0)
        have Ya1 : Hid (U.cell? ⟨b, 1, none⟩ = some (.slice A2 n2 c2)) := Lib.hid (((bnext hb hal).cell (p := ⟨b, 1, none⟩) hbl).trans a1)
        have QU := Lib.hid (And.intro (Q.out.1.below (bnext hb hal)) (Q.out.2.below (bnext hb hal)))
        have hbU := lt_of_cell Ya0.out
        clear hq hs hb j1 j2 t1 hal
        go_wp2_with fail
        rw [HU.out, Hp2.out]
        refine (Mode_any U (.agg #[.slice Bx mx dx, .slice By my dy]) l2 w2 ⟨_, _, _, _, _, _, rfl, Q2.out.1, Q2.out.2⟩ (kk : Int)).mono ?_
        rw [HG2.out.1]
        rintro e u2 ⟨rfl, hb2⟩
        have B2 := Lib.hid hb2
        have y0 := (hb2.cell (p := ⟨p2, 0, none⟩) hpl).trans Y0.out
        have y1 := (hb2.cell (p := ⟨p2, 1, none⟩) hpl).trans Y1.out
        clear hb2
        go_wp2_with fail
        refine (Waiting_any u2 (.agg #[.slice Bx mx dx, .slice By my dy]) l2 w2 ⟨_, _, _, _, _, _, rfl, Q2.out.1.below B2.out, Q2.out.2.below B2.out⟩ (kk : Int)).mono ?_
        rw [HG2.out.2]
        rintro e u3 ⟨rfl, hb2⟩
        have B3 := Lib.hid (bnext B2.out hb2)
        clear hb2 y0 y1
        have y0 := (B3.out.cell (p := ⟨p2, 0, none⟩) hpl).trans Y0.out
        have y1 := (B3.out.cell (p := ⟨p2, 1, none⟩) hpl).trans Y1.out
        go_wp2_with fail
        refine (Check_any u3 (.agg #[.slice Bx mx dx, .slice By my dy]) l2 w2 ⟨_, _, _, _, _, _, rfl, Q2.out.1.below B3.out, Q2.out.2.below B3.out⟩ OK2.out).mono ?_
        rintro e u4 ⟨rfl, hb2⟩
        have B4 := Lib.hid (bnext B3.out hb2)
        clear hb2 y0 y1
        go_wp2_with fail
        go_loopw [16, 17, 18] (fun n _ _ wq => ∃ (q : Nat), n = .int .i64 (q : Int) ∧ q ≤ 8 ∧ Hid (Below U.heap.size U wq)) (fun n _ _ _ => 8 - (intOf n).toNat)
        case atStart => exact ⟨0, rfl, by omega, B4⟩
        case round =>
          obtain ⟨q, rfl, hq8, BQ⟩ := hrel
          by_cases hq : q < 8
          · have hq' : (q : Int) < 8 := by omega
            by_cases hqk : q = kk
            · subst hqk
              go_wp2
              go_roundw
              case rel => exact ⟨q + 1, by go_num, by omega, BQ⟩
              case measure => simp [intOf]; omega
            · have hqb : ((q : Int) == (kk : Int)) = false := by simp; omega
              have HOq := Lib.hid (HO2.out (q : Int) (by omega))
              go_wp2_with fail
              go_loopw [17, 18] (fun s i wi => ∃ (j : Nat) (B : Bool), i = .int .i64 (j : Int) ∧ s = .bool B ∧ j ≤ nt ∧ Hid ((T2.take j).any (ofQ (q : Int)) = B) ∧ Hid (Below U.heap.size U wi)) (fun _ i _ => nt - (intOf i).toNat)
              case atStart => exact ⟨0, false, rfl, rfl, by omega, Lib.hid (by simp), BQ⟩
              case round =>
                obtain ⟨j, B, rfl, rfl, hj, HBj, BI⟩ := hrel
                have hnt := QT.out.small
                by_cases hjn : j < nt
                · have hjn' : (j : Int) < (nt : Int) := by omega
                  obtain ⟨c9, hc9⟩ : ∃ y, T2[j]? = some y := ⟨_, List.getElem?_eq_getElem (by rw [QT.out.length]; exact hjn)⟩
                  obtain ⟨g, o2, rfl, hg, hcs⟩ := (QT.out.below BI.out).cells (by omega)
                  obtain ⟨c0, c1⟩ := hcs j c9 hc9
                  have Hst := Lib.hid (take_any_step (p := ofQ (q : Int)) hc9)
                  clear hcs hc9
                  rw [HBj.out] at Hst
                  cases B with
                  | true =>
                    go_wp2
                    go_roundw
                    case rel => exact ⟨j + 1, true, by go_num, rfl, by omega, Lib.hid (by rw [Hst.out]; rfl), BI⟩
                    case measure => simp [intOf]; omega
                  | false =>
                    go_wp2
                    go_roundw
                    case rel => exact ⟨j + 1, _, by go_num, rfl, by omega, Lib.hid (by rw [Hst.out, Bool.false_or]; rfl), BI⟩
                    case measure => simp [intOf]; omega
                · have hjn' : ¬ (j : Int) < (nt : Int) := by omega
                  have HS : Hid (T2.any (ofQ (q : Int)) = B) := Lib.hid (by rw [← HBj.out, List.take_of_length_le (by rw [QT.out.length]; omega)])
                  rw [HS.out] at HOq
                  cases B with
                  | true =>
                    obtain ⟨z9, Hz9⟩ : ∃ z, Hid (modeM ws (q : Int) = z) := ⟨_, Lib.hid rfl⟩
                    have Hm9 : Hid (modeM l2 (q : Int) = z9) := Lib.hid (by rw [HOq.out.1 rfl, Hz9.out])
                    have hzz : (z9 != z9) = false := bne_no rfl
                    have hp2r : p2 < wr.heap.size := Nat.lt_of_lt_of_le hpl BI.out.size
                    have hbr : b < wr.heap.size := Nat.lt_of_lt_of_le hbU BI.out.size
                    have k0 := (BI.out.cell (p := ⟨p2, 0, none⟩) hpl).trans Y0.out
                    have k1 := (BI.out.cell (p := ⟨p2, 1, none⟩) hpl).trans Y1.out
                    have k2 := (BI.out.cell (p := ⟨b, 0, none⟩) hbU).trans Ya0.out
                    have k3 := (BI.out.cell (p := ⟨b, 1, none⟩) hbU).trans Ya1.out
                    have r0 : ∀ y : In (Abv wr), y.u.cell? ⟨p2, 0, none⟩ = some (.slice Bx mx dx) := fun y => (y.is.cell (p := ⟨p2, 0, none⟩) hp2r).trans k0
                    have r1 : ∀ y : In (Abv wr), y.u.cell? ⟨p2, 1, none⟩ = some (.slice By my dy) := fun y => (y.is.cell (p := ⟨p2, 1, none⟩) hp2r).trans k1
                    have r2 : ∀ y : In (Abv wr), y.u.cell? ⟨b, 0, none⟩ = some (.slice A n c) := fun y => (y.is.cell (p := ⟨b, 0, none⟩) hbr).trans k2
                    have r3 : ∀ y : In (Abv wr), y.u.cell? ⟨b, 1, none⟩ = some (.slice A2 n2 c2) := fun y => (y.is.cell (p := ⟨b, 1, none⟩) hbr).trans k3
                    clear k0 k1 k2 k3
                    go_wp2_with fail
                    refine wp_region_mix (by kernel_rfl) (Cls (Abv wr)) [(0, 0), (1, 0), (2, 0), (3, 0), (5, 0), (6, 0), (4, 1), (7, 1), (8, 0), (9, 0), (10, 0), (11, 0), (12, 0), (13, 0), (14, 0), (15, 0), (17, 0), (18, 0), (16, 1), (19, 1), (20, 0), (21, 0), (22, 0), (23, 0), (25, 0), (26, 0), (24, 1), (27, 1), (28, 0), (29, 0), (30, 0), (31, 0)] (by kernel_rfl) (cls (Below.refl _ wr).drew) ?_
                    repeat (refine mix0 rfl (fun K hK => ?_); go_simp; refine hK _ ?_; clear hK K)
                    refine mix1 rfl (fun K hK => ?_)
                    go_simp
                    refine (Mode_any wr.drew (.agg #[.slice Bx mx dx, .slice By my dy]) l2 w2 ⟨_, _, _, _, _, _, rfl, (Q2.out.1.below BI.out).below (drew_same wr), (Q2.out.2.below BI.out).below (drew_same wr)⟩ (q : Int)).mono ?_
                    rw [Hm9.out]
                    rintro e wa ⟨rfl, hb7⟩
                    have Bwa : Hid (Abv wr wa) := Lib.hid (bnext (drew_same wr) hb7)
                    clear hb7
                    refine ⟨_, rfl, hK _ _ (cls Bwa.out) ?_⟩
                    clear hK K
                    refine mix1 rfl (fun K hK => ?_)
                    go_simp
                    refine (Waiting_any wa (.agg #[.slice A n c, .slice A2 n2 c2]) h ws ⟨_, _, _, _, _, _, rfl, (QU.out.1.below BI.out).below Bwa.out, (QU.out.2.below BI.out).below Bwa.out⟩ (q : Int)).mono ?_
                    rw [Hz9.out]
                    rintro e wb ⟨rfl, hb7⟩
                    have Bwb : Hid (Abv wr wb) := Lib.hid (bnext Bwa.out hb7)
                    clear hb7
                    refine ⟨_, rfl, hK _ _ (cls Bwb.out) ?_⟩
                    clear hK K
                    repeat (refine mix0 rfl (fun K hK => ?_); go_simp; refine hK _ ?_; clear hK K)
                    refine mix1 rfl (fun K hK => ?_)
                    go_simp
                    refine hK _ _ (cls Bwb.out) ?_
                    clear hK K
                    refine mix1 rfl (fun K hK => ?_)
                    go_simp
                    refine hK _ _ (cls Bwb.out) ?_
                    clear hK K
                    repeat (refine mix0 rfl (fun K hK => ?_); go_simp; refine hK _ ?_; clear hK K)
                    refine mix1 rfl (fun K hK => ?_)
                    go_simp
                    refine hK _ _ (cls Bwb.out) ?_
                    clear hK K
                    refine mix1 rfl (fun K hK => ?_)
                    go_simp
                    refine hK _ _ (cls Bwb.out) ?_
                    clear hK K
                    repeat (refine mix0 rfl (fun K hK => ?_); go_simp; refine hK _ ?_; clear hK K)
                    refine mixEnd ?_
                    have BE := Lib.hid (bnext BI.out Bwb.out)
                    clear r0 r1 r2 r3
                    go_wp2
                    go_roundw
                    case rel => exact ⟨q + 1, by go_num, by omega, BE⟩
                    case measure => simp [intOf]; omega
                  | false =>
                    obtain ⟨z8, Hz8⟩ : ∃ z, Hid (modeM h (q : Int) = z) := ⟨_, Lib.hid rfl⟩
                    obtain ⟨z9, Hz9⟩ : ∃ z, Hid (modeM ws (q : Int) = z) := ⟨_, Lib.hid rfl⟩
                    have Hm8 : Hid (modeM l2 (q : Int) = z8) := Lib.hid (by rw [(HOq.out.2 rfl).1, Hz8.out])
                    have Hm9 : Hid (modeM w2 (q : Int) = z9) := Lib.hid (by rw [(HOq.out.2 rfl).2, Hz9.out])
                    have hz8 : (z8 != z8) = false := bne_no rfl
                    have hz9 : (z9 != z9) = false := bne_no rfl
                    have hp2r : p2 < wr.heap.size := Nat.lt_of_lt_of_le hpl BI.out.size
                    have hbr : b < wr.heap.size := Nat.lt_of_lt_of_le hbU BI.out.size
                    have k0 := (BI.out.cell (p := ⟨p2, 0, none⟩) hpl).trans Y0.out
                    have k1 := (BI.out.cell (p := ⟨p2, 1, none⟩) hpl).trans Y1.out
                    have k2 := (BI.out.cell (p := ⟨b, 0, none⟩) hbU).trans Ya0.out
                    have k3 := (BI.out.cell (p := ⟨b, 1, none⟩) hbU).trans Ya1.out
                    have r0 : ∀ y : In (Abv wr), y.u.cell? ⟨p2, 0, none⟩ = some (.slice Bx mx dx) := fun y => (y.is.cell (p := ⟨p2, 0, none⟩) hp2r).trans k0
                    have r1 : ∀ y : In (Abv wr), y.u.cell? ⟨p2, 1, none⟩ = some (.slice By my dy) := fun y => (y.is.cell (p := ⟨p2, 1, none⟩) hp2r).trans k1
                    have r2 : ∀ y : In (Abv wr), y.u.cell? ⟨b, 0, none⟩ = some (.slice A n c) := fun y => (y.is.cell (p := ⟨b, 0, none⟩) hbr).trans k2
                    have r3 : ∀ y : In (Abv wr), y.u.cell? ⟨b, 1, none⟩ = some (.slice A2 n2 c2) := fun y => (y.is.cell (p := ⟨b, 1, none⟩) hbr).trans k3
                    clear k0 k1 k2 k3
                    go_wp2_with fail
                    refine wp_region_mix (by kernel_rfl) (Cls (Abv wr)) [(0, 0), (1, 0), (2, 0), (3, 0), (5, 0), (6, 0), (4, 1), (7, 1), (8, 0), (9, 0), (10, 0), (11, 0), (12, 0), (13, 0), (14, 0), (15, 0), (17, 0), (18, 0), (16, 1), (19, 1), (20, 0), (21, 0), (22, 0), (23, 0), (25, 0), (26, 0), (24, 1), (27, 1), (28, 0), (29, 0), (30, 0), (31, 0)] (by kernel_rfl) (cls (Below.refl _ wr).drew) ?_
                    repeat (refine mix0 rfl (fun K hK => ?_); go_simp; refine hK _ ?_; clear hK K)
                    refine mix1 rfl (fun K hK => ?_)
                    go_simp
                    refine hK _ _ (cls (drew_same wr)) ?_
                    clear hK K
                    refine mix1 rfl (fun K hK => ?_)
                    go_simp
                    refine hK _ _ (cls (drew_same wr)) ?_
                    clear hK K
                    repeat (refine mix0 rfl (fun K hK => ?_); go_simp; refine hK _ ?_; clear hK K)
                    refine mix1 rfl (fun K hK => ?_)
                    go_simp
                    refine (Mode_any wr.drew (.agg #[.slice Bx mx dx, .slice By my dy]) l2 w2 ⟨_, _, _, _, _, _, rfl, (Q2.out.1.below BI.out).below (drew_same wr), (Q2.out.2.below BI.out).below (drew_same wr)⟩ (q : Int)).mono ?_
                    rw [Hm8.out]
                    rintro e wa ⟨rfl, hb7⟩
                    have Bwa : Hid (Abv wr wa) := Lib.hid (bnext (drew_same wr) hb7)
                    clear hb7
                    refine ⟨_, rfl, hK _ _ (cls Bwa.out) ?_⟩
                    clear hK K
                    refine mix1 rfl (fun K hK => ?_)
                    go_simp
                    refine (Mode_any wa (.agg #[.slice A n c, .slice A2 n2 c2]) h ws ⟨_, _, _, _, _, _, rfl, (QU.out.1.below BI.out).below Bwa.out, (QU.out.2.below BI.out).below Bwa.out⟩ (q : Int)).mono ?_
                    rw [Hz8.out]
                    rintro e wb ⟨rfl, hb7⟩
                    have Bwb : Hid (Abv wr wb) := Lib.hid (bnext Bwa.out hb7)
                    clear hb7
                    refine ⟨_, rfl, hK _ _ (cls Bwb.out) ?_⟩
                    clear hK K
                    repeat (refine mix0 rfl (fun K hK => ?_); go_simp; refine hK _ ?_; clear hK K)
                    refine mix1 rfl (fun K hK => ?_)
                    go_simp
                    refine (Waiting_any wb (.agg #[.slice Bx mx dx, .slice By my dy]) l2 w2 ⟨_, _, _, _, _, _, rfl, (Q2.out.1.below BI.out).below Bwb.out, (Q2.out.2.below BI.out).below Bwb.out⟩ (q : Int)).mono ?_
                    rw [Hm9.out]
                    rintro e wc ⟨rfl, hb7⟩
                    have Bwc : Hid (Abv wr wc) := Lib.hid (bnext Bwb.out hb7)
                    clear hb7
                    refine ⟨_, rfl, hK _ _ (cls Bwc.out) ?_⟩
                    clear hK K
                    refine mix1 rfl (fun K hK => ?_)
                    go_simp
                    refine (Waiting_any wc (.agg #[.slice A n c, .slice A2 n2 c2]) h ws ⟨_, _, _, _, _, _, rfl, (QU.out.1.below BI.out).below Bwc.out, (QU.out.2.below BI.out).below Bwc.out⟩ (q : Int)).mono ?_
                    rw [Hz9.out]
                    rintro e wd ⟨rfl, hb7⟩
                    have Bwd : Hid (Abv wr wd) := Lib.hid (bnext Bwc.out hb7)
                    clear hb7
                    refine ⟨_, rfl, hK _ _ (cls Bwd.out) ?_⟩
                    clear hK K
                    repeat (refine mix0 rfl (fun K hK => ?_); go_simp; refine hK _ ?_; clear hK K)
                    refine mixEnd ?_
                    have BE := Lib.hid (bnext BI.out Bwd.out)
                    clear r0 r1 r2 r3
                    go_wp2
                    go_roundw
                    case rel => exact ⟨q + 1, by go_num, by omega, BE⟩
                    case measure => simp [intOf]; omega
          · have hq' : ¬ (q : Int) < 8 := by omega
            go_wp2
            go_ret
            exact ⟨rfl, bnext BU.out BQ.out⟩
theorem own : ownKnob Try.prog.godebug = none := by kernel_rfl
theorem laidOut : laidOutB Try.prog = true := by kernel_rfl
set_option maxRecDepth 100000 in
theorem lifted (os : Os) (started : os.Started) (H : Type) (enc : TypeId × Value → H) :
    ReturnsInHanded {} Try.checked os 6 .any (Rows.queueLeavesSpec.pre6 enc Try.prog Try.f6 Rows.queueLeavesRow.domain false) (Rows.queueLeavesSpec.post enc Try.prog Try.f6 false true false false) := by
  refine returnsInHanded_of_change (C := Try.checked) own started (by kernel_rfl) Try.func6
    (ChangeSpec.witness6 (enc := enc) (C := Try.checked) false ⟨#[], #[.slice none 0 0, .int .i64 0], []⟩ 8 (by kernel_rfl) (by kernel_rfl) (by kernel_rfl) (by kernel_rfl)) ?_
  intro W base args ds gs before hval0 hW hcnd _
  have hval : ∀ (j : Nat) t v, Try.f6.params[j]? = some t → args[j]? = some v → Value.okWide Try.prog W .any base t v := hval0
  have hW' := hW
  obtain ⟨p, q, hA0, hV, rfl, hfz, hnd⟩ := hW
  have hA : DataW.TrodAll enc Try.prog W 0 (fun _ => true) true Try.f6.params.toList args.toList ds p := hA0
  rw [Try.params6] at hA hval
  obtain ⟨v0, vs0, d0, ds0, p0, q0, hargs, rfl, rfl, h0, r0⟩ := trodAll_cons hA
  obtain ⟨v1, vs1, d1, ds1, p1, q1, rfl, rfl, rfl, h1, r1⟩ := trodAll_cons r0
  obtain ⟨rfl, rfl, rfl⟩ := trodAll_nil r1
  obtain rfl : args = #[v0, v1] := by cases args; simp_all
  obtain ⟨x0, len0, cap0, a0, rfl, w0, y0⟩ := opens_ops (hval 0 22 v0 rfl rfl) h0
  obtain ⟨a1, rfl, rfl, rfl, w1⟩ := open_int Try.underlying3 (hval 1 3 v1 rfl rfl) h1
  clear hA0 hval0
  refine (walk x0 len0 cap0 a0 a1 W w0 y0 w1).mono fun e W' ⟨he, bel⟩ => ?_
  subst he
  exact ⟨_, rfl, law_post laidOut (by rw [Try.params6]; decide +kernel) rfl Try.underlying4 rfl hW' (fun _ => rfl) bel⟩
theorem over : Rows.queueLeavesRow.holds Try.pinned (OpenSpec.ofChange Rows.queueLeavesSpec) :=
  OpenClaim.holds_of_wide 6 Try.f6 rfl rfl rfl rfl rfl rfl rfl ⟨rfl, rfl, rfl, rfl, rfl⟩ rfl rfl rfl rfl rfl (by kernel_rfl) Try.func6 (by kernel_rfl)
    (of_decide_eq_true (by kernel_rfl)) (by unfold Func.isWrapper; first | (rw [if_pos (by decide +kernel)]; kernel_rfl) | (rw [if_neg (by decide +kernel)]; exact ⟨rfl, rfl⟩))
    (fun os started H enc _ => lifted os started H enc)
theorem proved : Rows.QueueLeavesSaid := over
end Go.Proofs.Ytbeoigkjlgimdaa.queueLeaves
