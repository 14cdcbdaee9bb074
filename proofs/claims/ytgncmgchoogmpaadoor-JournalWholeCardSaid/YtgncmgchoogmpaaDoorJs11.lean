/- What package journal's Scan finds, at this translation. -/
import Derived.Test.YtgncmgchoogmpaaDoorJr11
import Derived.Test.YtgncmgchoogmpaaDoorJq11
namespace Go.Proofs.YtgncmgchoogmpaaDoor
open Go.RowKit

theorem jRecord_any (size seq : Int) (A : Option Addr) (n c : Nat) (l : List Ch) (w : World) (h : IsG w 2 encC A n l) (hT : Tab w) (hsz : size ≤ 9223372036854775807) :
    Calls Tryd.prog 19 #[.int .i64 size, .int .i64 seq, .slice A n c] w fun e w' => ∃ B m d, e = .returned (.tuple #[.slice B m d, chV (recM size seq l), .int .i64 (recE size seq l)]) ∧ IsG w' 2 encC B m (recL size seq l) ∧ m ≤ d ∧ d ≤ maxLen ∧ (∀ g, blk (.slice B m d) = some g → w.heap.size ≤ g) ∧ Below w.heap.size w w' := by
  by_cases he : recE size seq l = 0
  · refine (jRecord_yes size seq A n c l w h he hT hsz).mono ?_
    rintro e w' ⟨B, d, rfl, hr, hg, hb⟩
    obtain ⟨h1, h2, h3⟩ := hr.is encC_ok
    exact ⟨B, n + 1, d, by rw [recM, if_pos he, he], by rw [recL, if_pos he]; exact h1, h2, h3, hg, hb⟩
  · refine (jRecord_no size seq A n c l w h he).mono ?_
    rintro e w' ⟨rfl, hb⟩
    exact ⟨none, 0, 0, by rw [recM, if_neg he], by rw [recL, if_neg he]; exact isG_nil _ _ _, Nat.le_refl _, Nat.zero_le _, (fun g hg => by cases hg), hb⟩
/-- Worlds in which but one block nothing has turned. -/
abbrev Cmb (W : World) (b : Nat) : World → Prop := fun u => Mod (· = b) W u
instance (W : World) (b : Nat) : Nonempty (In (Cmb W b)) := ⟨⟨W, Mod.refl _ _⟩⟩
theorem IsStrs.cellAt {w : World} {A : Option Addr} {n : Nat} {ss : List (List UInt8)} (h : IsStrs w A n ss) (h0 : 0 < n) : ∃ g off, A = some ⟨g, off, none⟩ ∧ g < w.heap.size ∧ ∀ (u : World) (S : Nat → Prop), Mod S w u → ¬ S g → ∀ i, i < n → u.cell? ⟨g, off + i, none⟩ = some (.string (str (ss.getD i []))) := by
  obtain ⟨g, off, e, hc⟩ := h.cells h0
  have hg := lt_of_cell (hc 0 h0)
  exact ⟨g, off, e, hg, fun u S m hs i hi => (m.cell (p := ⟨g, off + i, none⟩) hg hs).trans (hc i hi)⟩
set_option maxRecDepth 100000 in
set_option maxHeartbeats 4000000 in
theorem changes_any (A : Option Addr) (n c : Nat) (rg : List (List UInt8)) (w : World) (h : IsStrs w A n rg) (h4 : 4 ≤ n) (hn : n ≤ 100000) :
    Calls Tryd.prog 35 #[.slice A n c] w fun e w' => ∃ B m d, e = .returned (.tuple #[.int .i64 (chgQ rg : Int), .slice B m d]) ∧ IsG w' 2 encC B m (chgL rg) ∧ m ≤ d ∧ d ≤ maxLen ∧ (∀ g, blk (.slice B m d) = some g → w.heap.size ≤ g) ∧ Below w.heap.size w w' := by
  have hl := Lib.hid h.length
  obtain ⟨g, off, rfl, hg, hcs⟩ := h.cellAt (by omega)
  have Hcs := Lib.hid hcs
  have c1 := hcs w (fun _ => False) (Mod.refl _ _) id 1 (by omega)
  obtain ⟨s1, Hs1⟩ : ∃ x, Hid (rg.getD 1 [] = x) := ⟨_, Lib.hid rfl⟩
  rw [Hs1.out] at c1
  have hB : Hid (chgB rg = decide (roomI n < (chgN s1 : Int))) := Lib.hid (by rw [chgB, hl.out, Hs1.out])
  have hlt1 : (1 : Int) < (n : Int) := by omega
  clear hcs h
  go_enter Tryd.func35, Tryd.ntmps35
  go_wp2_with fail
  refine (jopen_any _ _).mono ?_
  rintro e w1 ⟨b, rfl, hsz, hb, hr⟩
  have Hb := Lib.hid hb
  have Hs := Lib.hid hsz
  have hgb : g ≠ b := by omega
  clear hb hsz c1
  go_wp2_with fail
  refine (REight_any _ _ _ _ (by omega) (by omega) _ hr).mono ?_
  rintro e w2 ⟨rfl, hm2, hr2⟩
  go_wp2_with fail
  refine (RTwo_any _ _ _ _ hr2).mono ?_
  rintro e w3 ⟨rfl, hm3, hr3⟩
  obtain ⟨R1, HR1⟩ : ∃ x, Hid (chgR s1 = x) := ⟨_, Lib.hid rfl⟩
  rw [show takeL (eightL (takeL (openS s1) 4) 1099511627776) 2 = chgR s1 from rfl, HR1.out] at hr3
  rw [show eightV (takeL (openS s1) 4) 1099511627776 = chgQ0 s1 from rfl, show textN (eightL (takeL (openS s1) 4) 1099511627776) = chgN s1 from rfl]
  obtain ⟨br, Hr⟩ : ∃ br, Hid (Rd w3 b R1 br) := ⟨_, Lib.hid hr3⟩
  have Bl := Lib.hid (bmod Hb.out (hm2.trans hm3) Hs.out)
  clear hr hr2 hr3 hm2 hm3 Hb
  obtain ⟨q, Hq⟩ : ∃ x, Hid (chgQ0 s1 = x) := ⟨_, Lib.hid rfl⟩
  obtain ⟨m, Hm⟩ : ∃ x, Hid (chgN s1 = x) := ⟨_, Lib.hid rfl⟩
  rw [Hq.out, Hm.out]
  rw [Hm.out] at hB
  go_wp2_with fail
  refine (jRoom_any _ _).mono ?_
  rintro e w4 ⟨rfl, rfl⟩
  by_cases hbig : roomI n < (m : Int)
  · have hres : Hid (chgQ rg = 0 ∧ chgL rg = []) := Lib.hid (by
      have : chgB rg = true := by rw [hB.out]; simpa using hbig
      exact ⟨by rw [chgQ, this]; rfl, by rw [chgL, this]; rfl⟩)
    go_wp2
    go_ret2
    exact ⟨none, 0, 0, by rw [hres.out.1]; rfl, by rw [hres.out.2]; exact isG_nil _ _ _, Nat.le_refl _, Nat.zero_le _, (fun g hg => by cases hg), Bl.out⟩
  · have hm60 : m ≤ 60 := by have := roomI_le n; omega
    have hmn : m + 3 ≤ n := by unfold roomI at hbig; omega
    have hres : Hid (chgQ rg = q ∧ chgL rg = chgL0 R1 rg m) := Lib.hid (by
      have : chgB rg = false := by rw [hB.out]; simpa using hbig
      exact ⟨by rw [chgQ, this, Hs1.out, Hq.out]; rfl, by rw [chgL, this, Hs1.out, Hm.out, HR1.out]; rfl⟩)
    clear HR1 Hq Hm hB Hs1
    have hmk := fun u => mkCh u m (by omega) (m : Int) rfl
    obtain ⟨w5, HW5⟩ : ∃ x, Hid (w3.alloc (.cells (madeCells (encC (0, [])).toArray (m * 2)) 32) = x) := ⟨_, Lib.hid rfl⟩
    obtain ⟨p, Hp⟩ : ∃ x, Hid (w3.heap.size = x) := ⟨_, Lib.hid rfl⟩
    have R5 : Hid (RG w5 2 encC (.slice (some ⟨p, 0, none⟩) m m) (List.replicate m (0, []))) := Lib.hid (by rw [← HW5.out, ← Hp.out]; exact RG.made encC_ok (0, []) w3 m (by omega) _)
    have B5 : Hid (Below w3.heap.size w3 w5) := Lib.hid (by rw [← HW5.out]; exact balloc (Below.refl _ _) _)
    go_wp2_with fail
    rw [HW5.out, Hp.out]
    clear hmk
    have hbp : b ≠ p := by have := Hr.out.lt; have := Hp.out; omega
    have hwp : Hid (w.heap.size ≤ p) := Lib.hid (by have := Bl.out.size; have := Hp.out; omega)
    have r5 : Hid (Rd w5 b R1 br) := Lib.hid (Hr.out.below B5.out)
    have b5 : Hid (Below w.heap.size w w5) := Lib.hid (bnext Bl.out B5.out)
    have hgp : g ≠ p := by have := hwp.out; omega
    go_loopw [26] (fun i wr => ∃ (j : Nat) (bl : Bool), j ≤ m ∧ i = .int .i64 j ∧ Hid (RG wr 2 encC (.slice (some ⟨p, 0, none⟩) m m) (chgL0 R1 rg j ++ List.replicate (m - j) (0, []))) ∧ Hid (Rd wr b (leftS j R1) bl) ∧ Hid (Below w.heap.size w wr)) (fun i _ => m - (intOf i).toNat)
    case atStart => exact ⟨0, br, Nat.zero_le _, rfl, R5, r5, b5⟩
    case round =>
      obtain ⟨j, bl, hj, rfl, HRj, Hrj, Hbj⟩ := hrel
      by_cases hlt : j < m
      · have hltI : (j : Int) < (m : Int) := by omega
        obtain ⟨x, Hx⟩ : ∃ x, Hid (rg.getD (2 + j) [] = x) := ⟨_, Lib.hid rfl⟩
        have q0 : ∀ y : In (Cmb wr b), y.u.cell? ⟨g, off + (2 + j), none⟩ = some (.string (str x)) := fun y => by
          rw [← Hx.out]
          exact Hcs.out y.u (fun k => w.heap.size ≤ k) ⟨y.is.os.trans Hbj.out.os, y.is.tape.trans Hbj.out.tape, y.is.output.trans Hbj.out.output, Nat.le_trans Hbj.out.size y.is.size, fun k hk hn => (y.is.block k (Nat.lt_of_lt_of_le hk Hbj.out.size) (by have := Hs.out; show k ≠ b; omega)).trans (Hbj.out.block k hk)⟩ (by omega) (2 + j) (by omega)
        have i1 : (2 : Int) + (j : Int) < (n : Int) := by omega
        have i2 : IntKind.i64.wrap ((2 : Int) + (j : Int)) = (2 : Int) + (j : Int) := IntWalk.i64_in _ (by omega)
        have i3 : ((2 : Int) + (j : Int)).toNat = 2 + j := by omega
        have i4 : (0 : Int) ≤ (2 : Int) + (j : Int) := by omega
        have hnl : Hid ((chgL0 R1 rg j).length = j) := Lib.hid (chgL0_length _ _ _)
        go_wp2_with fail
        refine wp_region_mix (by kernel_rfl) (Cls (Cmb wr b)) [(0, 0), (1, 0), (2, 0), (4, 0), (5, 0), (6, 0), (7, 0), (8, 0), (3, 1), (9, 0), (10, 0), (11, 2)] (by kernel_rfl) (cls ((Mod.refl _ wr).drew)) ?_
        repeat (refine mix0 rfl (fun K hK => ?_); go_simp; refine hK _ ?_; clear hK K)
        refine mix1 rfl (fun K hK => ?_)
        go_simp
        refine (RFour_any b (leftS j R1) bl _ (Hrj.out.below ((Below.refl _ wr).drew))).mono ?_
        rw [show num (takeS (leftS j R1) 4) = secN j R1 from rfl, show takeL (leftS j R1) 4 = leftS (j + 1) R1 from rfl]
        rintro e w6 ⟨rfl, hm6, hr6⟩
        obtain ⟨b6, Hr6⟩ : ∃ b6, Hid (Rd w6 b (leftS (j + 1) R1) b6) := ⟨_, Lib.hid hr6⟩
        have M6 : Hid (Mod (· = b) wr w6) := Lib.hid (((Mod.refl (· = b) wr).drew).trans hm6)
        have R6 : Hid (RG w6 2 encC (.slice (some ⟨p, 0, none⟩) m m) (chgL0 R1 rg j ++ List.replicate (m - j) (0, []))) := Lib.hid (HRj.out.later M6.out (fun g' hg' e => by simp only [blk, Option.some.injEq] at hg'; omega))
        clear hm6 hr6
        refine ⟨_, rfl, hK _ _ (cls M6.out) ?_⟩
        clear hK K
        obtain ⟨sc, Hsc⟩ : ∃ y, Hid (secN j R1 = y) := ⟨_, Lib.hid rfl⟩
        rw [Hsc.out]
        have hrep : (chgL0 R1 rg j ++ List.replicate (m - j) ((0, []) : Ch))[j]? = some (0, []) := by
          rw [List.getElem?_append_right (by rw [hnl.out]; exact Nat.le_refl _), hnl.out, Nat.sub_self, List.getElem?_replicate, if_pos (by omega)]
        obtain ⟨d0, f0⟩ := R6.out.cell encC_ok hrep (j := 0) (u := .int .i64 0) rfl
        obtain ⟨d1, f1⟩ := R6.out.cell encC_ok hrep (j := 1) (u := .string (str [])) rfl
        simp only [Nat.add_zero, Nat.zero_add] at d0 f0 d1 f1
        clear hrep
        repeat (refine mix0 rfl (fun K hK => ?_); go_simp; refine hK _ ?_; clear hK K)
        refine mix2 rfl (fun K hK => ?_); go_simp; refine hK _ _ ?_; clear hK K
        refine mixEnd ?_
        have R8 : Hid (RG ((w6.setCell ⟨p, j * 2, none⟩ (.int .i64 (sc : Int))).setCell ⟨p, j * 2 + 1, none⟩ (.string (str x))) 2 encC (.slice (some ⟨p, 0, none⟩) m m) (chgL0 R1 rg (j + 1) ++ List.replicate (m - (j + 1)) (0, []))) := Lib.hid (by
          have h := RG.set encC_ok R6.out (i := j) (by rw [List.length_append, hnl.out, List.length_replicate]; omega) ((sc : Int), x)
          rw [chgL0_succ, Hsc.out, Hx.out]
          rw [List.set_append_right _ _ (by rw [hnl.out]; exact Nat.le_refl _), hnl.out, Nat.sub_self, show m - j = (m - (j + 1)) + 1 by omega, List.replicate_succ, List.set_cons_zero] at h
          rw [List.append_assoc, List.singleton_append]
          rw [Nat.zero_add] at h
          exact h)
        have r8 : Hid (Rd ((w6.setCell ⟨p, j * 2, none⟩ (.int .i64 (sc : Int))).setCell ⟨p, j * 2 + 1, none⟩ (.string (str x))) b (leftS (j + 1) R1) b6) := Lib.hid (Hr6.out.later (((Mod.refl (· = p) w6).set1 _).set1 _) hbp)
        have b8 : Hid (Below w.heap.size w ((w6.setCell ⟨p, j * 2, none⟩ (.int .i64 (sc : Int))).setCell ⟨p, j * 2 + 1, none⟩ (.string (str x)))) := Lib.hid (((bmod Hbj.out M6.out Hs.out).setCell hwp.out _).setCell hwp.out _)
        go_wp2
        go_roundw
        case rel => exact ⟨j + 1, b6, by omega, by go_num, R8, r8, b8⟩
        case measure => simp [intOf]; omega
      · obtain rfl : j = m := by omega
        have hltI : ¬ (j : Int) < (j : Int) := by omega
        rw [Nat.sub_self, List.replicate_zero, List.append_nil] at HRj
        go_wp2
        go_ret2
        obtain ⟨k1, k2, k3⟩ := HRj.out.is encC_ok
        exact ⟨some ⟨p, 0, none⟩, j, j, by rw [hres.out.1]; rfl, by rw [hres.out.2]; exact k1, k2, k3, (fun g' hg' => by simp only [blk, Option.some.injEq] at hg'; have := hwp.out; omega), Hbj.out⟩
set_option maxRecDepth 100000 in
set_option maxHeartbeats 4000000 in
theorem jScan_any (A : Option Addr) (n c : Nat) (rg : List (List UInt8)) (w : World) (h : IsStrs w A n rg) (hn : n ≤ 100000) (hT : Tab w) :
    Calls Tryd.prog 16 #[.slice A n c] w fun e w' => ∃ (s : Nat) (B : Option Addr) (m d : Nat) (l : List Ch) (ok : Bool), e = .returned (.tuple #[.int .i64 (s : Int), .slice B m d, .bool ok]) ∧ ScanR rg s l ok ∧ IsG w' 2 encC B m l ∧ m ≤ d ∧ d ≤ maxLen ∧ (∀ g, blk (.slice B m d) = some g → w.heap.size ≤ g) ∧ Below w.heap.size w w' := by
  have hl := Lib.hid h.length
  by_cases h4 : n < 4
  · have h0 : Hid (ScanR rg 0 [] false) := Lib.hid (scan_short (by rw [hl.out]; exact h4))
    have hr : (roomI n == 0) = true := by simp only [beq_iff_eq]; unfold roomI; omega
    go_enter Tryd.func16, Tryd.ntmps16
    go_wp2_with fail
    refine (jRoom_any _ _).mono ?_
    rintro e w1 ⟨rfl, rfl⟩
    go_wp2
    go_ret3
    exact ⟨0, none, 0, 0, [], false, rfl, h0.out, isG_nil _ _ _, Nat.le_refl _, Nat.zero_le _, (fun g hg => by cases hg), Below.refl _ _⟩
  · have hr : (roomI n == 0) = false := by simp only [beq_eq_false_iff_ne]; unfold roomI; omega
    have H := Lib.hid h
    have HT := Lib.hid hT
    obtain ⟨g, off, rfl, hg, hcs⟩ := h.cellAt (by omega)
    have Hcs := Lib.hid hcs
    have c0 := hcs w (fun _ => False) (Mod.refl _ _) id 0 (by omega)
    rw [Nat.add_zero] at c0
    have hn0 : (0 : Int) < (n : Int) := by omega
    have hnm : (n : Int) ≤ 9223372036854775807 := by omega
    clear hcs h hT
    go_enter Tryd.func16, Tryd.ntmps16
    go_wp2_with fail
    refine (jRoom_any _ _).mono ?_
    rintro e w1 ⟨rfl, rfl⟩
    go_wp2_with fail
    refine (jDone_any _ _).mono ?_
    rintro e w1 ⟨d, ok, rfl, hd, hb1⟩
    have Hd := Lib.hid hd
    have B1 := Lib.hid hb1
    clear hd hb1 c0
    go_wp2_with fail
    refine (changes_any _ n c rg w1 (H.out.below B1.out) (by omega) hn).mono ?_
    rintro e w2 ⟨B2, m2, c2, rfl, g2, x2, y2, z2, hb2⟩
    have Z2 : Hid (∀ g, blk (.slice B2 m2 c2) = some g → w.heap.size ≤ g) := Lib.hid (fun g hg => by have := z2 g hg; have := B1.out.size; omega)
    have G2 := Lib.hid g2
    have X2 := Lib.hid (And.intro x2 y2)
    have B2' := Lib.hid (bnext B1.out hb2)
    clear g2 x2 y2 z2 hb2
    have hq : chgQ rg ≤ 1099511627776 := chgQ_le rg
    have Hy := Lib.hid (fun hb => scan_yes (ok := ok) Hd.out (by rw [hl.out]; omega) hb)
    have Hn := Lib.hid (fun hb => scan_no (ok := ok) Hd.out hb)
    obtain ⟨BB, HBB⟩ : ∃ x, Hid (scanB rg d ok = x) := ⟨_, Lib.hid rfl⟩
    have hdef := HBB.out
    rw [scanB, hl.out] at hdef
    rw [HBB.out] at Hy Hn
    obtain ⟨q, Hq⟩ : ∃ x, Hid (chgQ rg = x) := ⟨_, Lib.hid rfl⟩
    obtain ⟨L, HL⟩ : ∃ x, Hid (chgL rg = x) := ⟨_, Lib.hid rfl⟩
    rw [Hq.out] at hq hdef Hy
    rw [HL.out] at hdef Hy G2
    rw [Hq.out]
    have Hdef := Lib.hid hdef
    clear hdef HBB Hq HL Hd
    go_wp2_with fail
    refine (jRecord_any n q B2 m2 c2 L w2 G2.out (HT.out.below B2'.out) hnm).mono ?_
    rintro e w3 ⟨B3, m3, c3, rfl, g3, _, _, _, hb3⟩
    obtain ⟨E, HE⟩ : ∃ x, Hid (recE n q L = x) := ⟨_, Lib.hid rfl⟩
    obtain ⟨M, HM⟩ : ∃ x, Hid (recM n q L = x) := ⟨_, Lib.hid rfl⟩
    have hM0 : Hid (E = 0 → M = ((n : Int) - 1, markS q L)) := Lib.hid (fun e => by rw [← HM.out, recM, if_pos (HE.out.trans e)]; rfl)
    have hL0 : Hid (E = 0 → recL n q L = numbered 1 (textsS q L)) := Lib.hid (fun e => by rw [recL, if_pos (HE.out.trans e)]; rfl)
    have G3 := Lib.hid g3
    have G23 := Lib.hid (G2.out.below hb3)
    rw [HE.out] at Hdef
    rw [HE.out, HM.out]
    clear g3 HE HM G2 B1
    obtain ⟨w4, HW4⟩ : ∃ x, Hid (w3.alloc (.cells #[.int .i64 M.1, .string (str M.2)] 32) = x) := ⟨_, Lib.hid rfl⟩
    obtain ⟨p, Hp⟩ : ∃ x, Hid (w3.heap.size = x) := ⟨_, Lib.hid rfl⟩
    have B4 : Hid (Below w.heap.size w w4) := Lib.hid (by rw [← HW4.out]; exact balloc (bnext B2'.out hb3) _)
    have K4 : Hid (ChAt w4 p M) := Lib.hid (by rw [← HW4.out, ← Hp.out]; exact ChAt.new w3 M _)
    have G4 : Hid (IsG w4 2 encC B3 m3 (recL n q L)) := Lib.hid (G3.out.below (by rw [← HW4.out]; exact balloc (Below.refl _ _) _))
    have G42 : Hid (IsG w4 2 encC B2 m2 L) := Lib.hid (G23.out.below (by rw [← HW4.out]; exact balloc (Below.refl _ _) _))
    have hno : Hid (BB = false → ∃ (s : Nat) (B : Option Addr) (m d : Nat) (l : List Ch) (ok : Bool), ok = false ∧ s = 0 ∧ B = none ∧ m = 0 ∧ d = 0 ∧ l = [] ∧ ScanR rg s l ok) := Lib.hid (fun e => ⟨0, none, 0, 0, [], false, rfl, rfl, rfl, rfl, rfl, rfl, Hn.out e⟩)
    have hwn : IntKind.i64.wrap ((n : Int) - 1) = (n : Int) - 1 := IntWalk.i64_in _ (by omega)
    clear G3 G23 hb3
    cases ok with
    | false =>
      have hBB : BB = false := by have := Hdef.out; simpa using this.symm
      go_wp2_with fail
      rw [HW4.out, Hp.out]
      go_quiet (fail)
      go_wp2
      go_ret3
      exact ⟨0, none, 0, 0, [], false, rfl, Hn.out hBB, isG_nil _ _ _, Nat.le_refl _, Nat.zero_le _, (fun g hg => by cases hg), bnext B4.out (below_drewN _ _)⟩
    | true =>
      by_cases hqd : q ≤ d
      · have hBB : BB = false := by
          rw [← Hdef.out, show decide (d < q) = false by simp; omega]
          rfl
        go_wp2_with fail
        rw [HW4.out, Hp.out]
        go_quiet (fail)
        go_wp2
        go_ret3
        exact ⟨0, none, 0, 0, [], false, rfl, Hn.out hBB, isG_nil _ _ _, Nat.le_refl _, Nat.zero_le _, (fun g hg => by cases hg), bnext B4.out (below_drewN _ _)⟩
      · have hqd' : decide (q ≤ d) = false := by simpa using hqd
        by_cases hE : E = 0
        · subst hE
          have e1 := hM0.out rfl
          have e2 := hL0.out rfl
          subst e1
          rw [e2, textsS, numbered] at G4
          obtain ⟨F, HF⟩ : ∃ x, Hid (firstS q L = x) := ⟨_, Lib.hid rfl⟩
          obtain ⟨MK, HMK⟩ : ∃ x, Hid (markS q L = x) := ⟨_, Lib.hid rfl⟩
          obtain ⟨s1, Hs1⟩ : ∃ x, Hid (rg.getD 1 [] = x) := ⟨_, Lib.hid rfl⟩
          obtain ⟨sl, Hsl⟩ : ∃ x, Hid (rg.getD (n - 1) [] = x) := ⟨_, Lib.hid rfl⟩
          rw [HF.out, HMK.out, Hs1.out, Hsl.out] at Hdef
          rw [HF.out] at G4
          rw [HMK.out] at K4
          have hm3 : 0 < m3 := by have := G4.out.length; simp at this; omega
          obtain ⟨g3, off3, rfl, _, h3⟩ := G4.out.cells hm3
          have t1 := h3 0 _ 1 (.string (str F)) rfl rfl
          simp only [Nat.zero_mul, Nat.add_zero] at t1
          have t2 := Hcs.out w4 (fun _ => False) (Mod.of_below B4.out) id 1 (by omega)
          have t3 := Hcs.out w4 (fun _ => False) (Mod.of_below B4.out) id (n - 1) (by omega)
          rw [Hs1.out] at t2
          rw [Hsl.out] at t3
          have t4 := K4.out.c0
          have t5 := K4.out.c1
          have i1 : ((n : Int) - 1).toNat = n - 1 := by omega
          have i2 : (1 : Int) < (n : Int) := by omega
          have i3 : (0 : Int) ≤ (n : Int) - 1 := by omega
          have i4 : (n : Int) - 1 < (n : Int) := by omega
          have i5 : (0 : Int) < (m3 : Int) := by omega
          clear h3 hM0 hL0 e2
          cases hf : F == s1 with
          | false =>
            have hBB : BB = false := by rw [← Hdef.out, hf]; simp
            go_wp2_with fail
            rw [HW4.out, Hp.out]
            go_quiet (fail)
            go_wp2
            go_ret3
            exact ⟨0, none, 0, 0, [], false, rfl, Hn.out hBB, isG_nil _ _ _, Nat.le_refl _, Nat.zero_le _, (fun g hg => by cases hg), bnext B4.out (below_drewN _ _)⟩
          | true =>
            cases hmk : MK == sl with
            | false =>
              have hBB : BB = false := by rw [← Hdef.out, hmk]; simp
              go_wp2_with fail
              rw [HW4.out, Hp.out]
              go_quiet (fail)
              go_wp2
              go_ret3
              exact ⟨0, none, 0, 0, [], false, rfl, Hn.out hBB, isG_nil _ _ _, Nat.le_refl _, Nat.zero_le _, (fun g hg => by cases hg), bnext B4.out (below_drewN _ _)⟩
            | true =>
              have hBB : BB = true := by rw [← Hdef.out, hf, hmk]; simp; omega
              go_wp2_with fail
              rw [HW4.out, Hp.out]
              go_quiet (fail)
              go_wp2
              go_ret3
              exact ⟨q, B2, m2, c2, L, true, rfl, Hy.out hBB, G42.out.below (below_drewN _ _), X2.out.1, X2.out.2, Z2.out, bnext B4.out (below_drewN _ _)⟩
        · have hE1 : (E != 0) = true := by simpa using hE
          have hBB : BB = false := by
            rw [← Hdef.out, show decide (E = 0) = false by simpa using hE]
            simp
          go_wp2_with fail
          rw [HW4.out, Hp.out]
          go_quiet (fail)
          go_wp2
          go_ret3
          exact ⟨0, none, 0, 0, [], false, rfl, Hn.out hBB, isG_nil _ _ _, Nat.le_refl _, Nat.zero_le _, (fun g hg => by cases hg), bnext B4.out (below_drewN _ _)⟩
end Go.Proofs.YtgncmgchoogmpaaDoor
