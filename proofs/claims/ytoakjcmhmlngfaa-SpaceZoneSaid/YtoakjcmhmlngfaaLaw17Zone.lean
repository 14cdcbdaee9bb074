/- Sectors are taken from the zone that was told as long as it has any, and none twice: SpaceZone. -/
import Derived.Test.YtoakjcmhmlngfaaRows
import Derived.Test.YtoakjcmhmlngfaaOb17
import Derived.Deep.CutBlock
import Derived.Deep.DeepCutAuto
namespace Go.Proofs.Ytoakjcmhmlngfaa.spaceZone
open Go.RowKit Go.ChangeShapes Go.WideShapes Go.ChangeAt
open Go.ChangeMaps (open_string shut_string)

set_option maxRecDepth 100000 in
set_option maxHeartbeats 8000000 in
theorem walk (a0 : Int) (A : Option Addr) (n cA : Nat) (zk : Nat → Int × Int) (z k : Int) (xs : List Int) (B : Option Addr) (m cb : Nat) (w : World) (_h0 : (Lit.int .i64 a0).wf = true) (h1 : IsAsks w A n zk) (_h1c : n ≤ cA)
    (h2 : IsG w 1 encI B m xs ∧ m ≤ cb ∧ cb ≤ maxLen ∧ (∀ x ∈ xs, (Lit.int .i64 x).wf = true) ∧ (Lit.int .i64 z).wf = true ∧ (Lit.int .i64 k).wf = true) :
    Calls Try.prog 4 #[.int .i64 a0, .slice A n cA, .agg #[.int .i64 z, .int .i64 k, .slice B m cb]] w fun e w' => e = .returned (.bool true) ∧ Below w.heap.size w w' := by
  obtain ⟨hB, _, _, _, hwz, hwk⟩ := h2
  obtain ⟨V, HV⟩ : ∃ W, Hid (w.alloc (.cells #[.int .i64 z, .int .i64 k, .slice B m cb] 32) = W) := ⟨_, Lib.hid rfl⟩
  obtain ⟨pa, Hpa⟩ : ∃ p, Hid (w.heap.size = p) := ⟨_, Lib.hid rfl⟩
  have RV : Hid (V.cell? ⟨pa, 0, none⟩ = some (.int .i64 z) ∧ V.cell? ⟨pa, 1, none⟩ = some (.int .i64 k) ∧ Below w.heap.size w V) := Lib.hid (by
    rw [← HV.out, ← Hpa.out]
    exact ⟨by simp [go_sem], by simp [go_sem], balloc (Below.refl _ _) _⟩)
  have HA := Lib.hid (h1.below RV.out.2.2)
  obtain ⟨r0, Hr0⟩ : ∃ r, Hid (a0.tmod 101 = r) := ⟨_, Lib.hid rfl⟩
  have hb0 : -101 < r0 ∧ r0 < 101 := by have := tmod_bd a0 101 (by omega); rw [show ((101 : Nat) : Int) = 101 from rfl, Hr0.out] at this; exact this
  obtain ⟨b00, b01⟩ := hb0
  have hr0 := Hr0.out
  clear hB hwk h1
  go_enter Try.func4, Try.ntmps4
  go_wp2_with fail
  rw [HV.out, Hpa.out]
  refine (awk17_any V).mono ?_
  rintro e w1 ⟨rfl, b1⟩
  have B1 := Lib.hid b1
  clear b1
  go_upto_if 30 with fail
  go_cut [8] (fun s wx => ∃ v : Nat, v < 101 ∧ s = .int .i64 v ∧ wx = w1)
  case first =>
    by_cases hneg : r0 < 0
    · go_wp2_with fail
      go_meet
      case rel => exact ⟨(-r0).toNat, by omega, by go_num, rfl⟩
    · go_wp2_with fail
      go_meet
      case rel => exact ⟨r0.toNat, by omega, by go_num, rfl⟩
  case rest =>
  obtain ⟨d, hd, rfl, rfl⟩ := hcut
  clear hr0 Hr0 b00 b01
  have HRt : Hid (RightM (freshL (140 + (d : Int))) (freshM (140 + (d : Int)))) := Lib.hid (rightM_iff.1 (fresh_right d hd))
  obtain ⟨l, Hl⟩ : ∃ l, Hid (freshL (140 + (d : Int)) = l) := ⟨_, Lib.hid rfl⟩
  obtain ⟨M, HM⟩ : ∃ l, Hid (freshM (140 + (d : Int)) = l) := ⟨_, Lib.hid rfl⟩
  rw [Hl.out, HM.out] at HRt
  go_wp2_with fail
  refine (fresh_any (140 + (d : Int)) _).mono ?_
  rw [Hl.out, HM.out]
  rintro e w2 ⟨g, rfl, hI, _, hb⟩
  obtain ⟨q, Hq⟩ : ∃ q, Hid (w2.heap.size = q) := ⟨_, Lib.hid rfl⟩
  obtain ⟨W2, HW2⟩ : ∃ W, Hid (w2.alloc (.cells #[.int .i64 l.s, .int .i64 l.n, .int .i64 l.f, .int .i64 l.z] 25) = W) := ⟨_, Lib.hid rfl⟩
  have L2 : Hid (LayAt W2 q l ∧ Below V.heap.size V W2 ∧ IsG W2 1 encT (some ⟨g, 0, none⟩) 4 M) := Lib.hid (by
    have b := balloc (Below.refl w2.heap.size w2) (.cells #[.int .i64 l.s, .int .i64 l.n, .int .i64 l.f, .int .i64 l.z] 25)
    refine ⟨?_, by rw [← HW2.out]; exact bnext (bnext B1.out hb) b, by rw [← HW2.out]; exact hI.below b⟩
    rw [← HW2.out, ← Hq.out]
    exact ⟨by go_simp, by go_simp, by go_simp, by go_simp⟩)
  clear hI hb
  have e10 : Hid (∀ N : List (List UInt8), RightM l N → ∀ s ∈ N, s.length ≤ 100000) := Lib.hid (fun N hN s hm => by rw [(hN.good s hm).len]; exact Nat.le_trans (size_le _) (by decide))
  go_upto_block 0 with (fail)
  rw [HW2.out, Hq.out]
  go_cut [10] (fun s wx => ∃ (Am : Option Addr) (cm : Nat) (M1 : List (List UInt8)), s = .slice Am 4 cm ∧ Hid (RightM l M1 ∧ (Am = none → 4 = 0 ∧ cm = 0) ∧ IsG wx 1 encT Am 4 M1 ∧ Below W2.heap.size W2 wx))
  case first =>
    go_wp2_with fail
    go_loopw [10, 11] (fun s i wr => ∃ (j : Nat) (Am : Option Addr) (cm : Nat) (M1 : List (List UInt8)), j ≤ 6 ∧ i = .int .i64 j ∧ s = .slice Am 4 cm ∧ Hid (RightM l M1 ∧ (Am = none → 4 = 0 ∧ cm = 0) ∧ IsG wr 1 encT Am 4 M1 ∧ Below W2.heap.size W2 wr)) (fun _ i _ => 6 - (intOf i).toNat)
    case atStart => exact ⟨0, some ⟨g, 0, none⟩, 4, M, by omega, rfl, rfl, Lib.hid ⟨HRt.out, (fun e => by cases e), L2.out.2.2, Below.refl _ _⟩⟩
    case round =>
      obtain ⟨j, Am, cm, M1, hj, rfl, rfl, HM1⟩ := hrel
      by_cases hlt : j < n
      · by_cases h6 : j < 6
        · have hj6 : (j : Int) < 6 := by omega
          have hjn : (j : Int) < (n : Int) := by omega
          have hj0 : (0 : Int) ≤ (j : Int) := by omega
          obtain ⟨b, off, hAe, hcells⟩ := (HA.out.below (bnext L2.out.2.1 HM1.out.2.2.2)).cells (by omega)
          subst hAe
          obtain ⟨c0, c1⟩ := hcells j hlt
          obtain ⟨za, Hza⟩ : ∃ x, Hid ((zk j).1 = x) := ⟨_, Lib.hid rfl⟩
          obtain ⟨ka, Hka⟩ : ∃ x, Hid ((zk j).2 = x) := ⟨_, Lib.hid rfl⟩
          rw [Hza.out] at c0
          rw [Hka.out] at c1
          obtain ⟨z3, Hz3, hz3⟩ := and_mask17 za 3 (by decide)
          have hk3 : bits .and .i64 za 3 = (z3 : Int) := Hz3.out
          obtain ⟨k7, Hk7, hk7⟩ := and_mask17 ka 7 (by decide)
          have hkk7 : bits .and .i64 ka 7 = (k7 : Int) := Hk7.out
          obtain ⟨e0, e1, e2, e3⟩ := L2.out.1.below HM1.out.2.2.2
          have hpl := (L2.out.1.below HM1.out.2.2.2).lt
          have q0 : ∀ y : In (Abv wr), y.u.cell? ⟨q, 0, none⟩ = some (.int .i64 l.s) := fun y => (y.is.cell (p := ⟨q, 0, none⟩) hpl).trans e0
          have q1 : ∀ y : In (Abv wr), y.u.cell? ⟨q, 1, none⟩ = some (.int .i64 l.n) := fun y => (y.is.cell (p := ⟨q, 1, none⟩) hpl).trans e1
          have q2 : ∀ y : In (Abv wr), y.u.cell? ⟨q, 2, none⟩ = some (.int .i64 l.f) := fun y => (y.is.cell (p := ⟨q, 2, none⟩) hpl).trans e2
          have q3 : ∀ y : In (Abv wr), y.u.cell? ⟨q, 3, none⟩ = some (.int .i64 l.z) := fun y => (y.is.cell (p := ⟨q, 3, none⟩) hpl).trans e3
          have q4 : ∀ y : In (Abv wr), y.u.cell? ⟨b, off + j * 3, none⟩ = some (.int .i64 za) := fun y => (y.is.cell (p := ⟨b, off + j * 3, none⟩) (lt_of_cell c0)).trans c0
          have q5 : ∀ y : In (Abv wr), y.u.cell? ⟨b, off + j * 3 + 1, none⟩ = some (.int .i64 ka) := fun y => (y.is.cell (p := ⟨b, off + j * 3 + 1, none⟩) (lt_of_cell c1)).trans c1
          have HGd := Lib.hid (HM1.out.2.2.1.below (Below.refl _ _).drew)
          clear hcells c0 c1
          go_wp2_with fail
          refine wp_region_mix (by kernel_rfl) (Cls (Abv wr)) ((0, 0) :: (1, 0) :: (2, 0) :: (3, 0) :: (4, 0) :: (5, 0) :: (6, 0) :: (7, 0) :: (8, 0) :: (9, 0) :: (10, 0) :: (11, 0) :: (12, 0) :: (13, 0) :: (14, 1) :: (15, 0) :: (16, 0) :: (17, 0) :: (18, 0) :: (19, 0) :: (20, 0) :: (21, 0) :: []) (by kernel_rfl) (cls (Below.refl _ _).drew) ?_
          repeat (refine mix0 rfl (fun K hK => ?_); go_simp; refine hK _ ?_; clear hK K)
          refine mix1 rfl (fun K hK => ?_)
          go_simp
          refine (Take_any l Am 4 cm M1 (z3 : Int) (k7 : Int) wr.drew HGd.out (by decide) HM1.out.2.1 (e10.out M1 HM1.out.1)).mono ?_
          cases hk : takeOk l M1 (z3 : Int) (k7 : Int) with
          | false =>
            rw [takeV_no hk]
            rintro e w3 ⟨⟨Aa, na, ca, va, rfl, _, _, _, _, _, hv⟩, b3⟩
            obtain rfl : va = .slice none 0 0 := by rcases hv with h | h; exact h; cases h
            have B3 : Hid (Below wr.heap.size wr w3) := Lib.hid ((Below.refl _ _).drew.trans (b3.mono (Nat.le_refl _)))
            refine ⟨_, rfl, hK _ _ (cls B3.out) ?_⟩
            clear hK K b3 hv
            repeat (refine mix0 rfl (fun K hK => ?_); go_simp; refine hK _ ?_; clear hK K)
            refine mixEnd ?_
            clear q0 q1 q2 q3 q4 q5 e0 e1 e2 e3
            go_wp2_with fail
            go_roundw
            case rel => exact ⟨j + 1, Am, cm, M1, by omega, by go_num, rfl, Lib.hid ⟨HM1.out.1, (fun e => ⟨by have := (HM1.out.2.1 e).1; omega, (HM1.out.2.1 e).2⟩), HM1.out.2.2.1.below B3.out, bnext HM1.out.2.2.2 B3.out⟩⟩
            case measure => simp [intOf]; omega
          | true =>
            have HV2 : Hid (takeV l M1 (z3 : Int) (k7 : Int) = ((takeUp l M1 z3 k7 4).1, (takeUp l M1 z3 k7 4).2, true)) := Lib.hid (by rw [takeV, hk]; rfl)
            have HO : Hid (RightM l (takeUp l M1 z3 k7 4).1) := Lib.hid (takeUp_right HM1.out.1 z3 k7 4)
            rw [HV2.out]
            rintro e w3 ⟨⟨Aa, na, ca, va, rfl, ra, sa, _, _, _, _⟩, b3⟩
            obtain ⟨rfl, hAa, hNa⟩ : na = 4 ∧ (Aa = none → na = 0 ∧ ca = 0) ∧ IsG w3 1 encT Aa 4 (takeUp l M1 z3 k7 4).1 := four_of ra HO.out.four
            obtain ⟨As, cs, rfl⟩ := sa.shape
            have B3 : Hid (Below wr.heap.size wr w3 ∧ IsG w3 1 encT Aa 4 (takeUp l M1 z3 k7 4).1 ∧ (Aa = none → 4 = 0 ∧ ca = 0)) := Lib.hid ⟨(Below.refl _ _).drew.trans (b3.mono (Nat.le_refl _)), hNa, hAa⟩
            refine ⟨_, rfl, hK _ _ (cls B3.out.1) ?_⟩
            clear hK K b3 ra sa hAa hNa
            repeat (refine mix0 rfl (fun K hK => ?_); go_simp; refine hK _ ?_; clear hK K)
            refine mixEnd ?_
            clear q0 q1 q2 q3 q4 q5 e0 e1 e2 e3
            go_wp2_with fail
            go_roundw
            case rel => exact ⟨j + 1, Aa, ca, _, by omega, by go_num, rfl, Lib.hid ⟨HO.out, (fun e => ⟨by have := (B3.out.2.2 e).1; omega, (B3.out.2.2 e).2⟩), B3.out.2.1, bnext HM1.out.2.2.2 B3.out.1⟩⟩
            case measure => simp [intOf]; omega
        · have hj6 : ¬ (j : Int) < 6 := by omega
          have hjn : (j : Int) < (n : Int) := by omega
          go_wp2_with fail
          go_meet
          case rel => exact ⟨Am, cm, M1, rfl, HM1⟩
      · have hjn : ¬ (j : Int) < (n : Int) := by omega
        go_wp2_with fail
        go_meet
        case rel => exact ⟨Am, cm, M1, rfl, HM1⟩
  case rest =>
  obtain ⟨Am, cm, M1, rfl, HM1⟩ := hcut
  have BW : Hid (Below V.heap.size V wc) := Lib.hid (bnext L2.out.2.1 HM1.out.2.2.2)
  have a0' := (BW.out.cell (p := ⟨pa, 0, none⟩) (lt_of_cell RV.out.1)).trans RV.out.1
  have a1 := (BW.out.cell (p := ⟨pa, 1, none⟩) (lt_of_cell RV.out.2.1)).trans RV.out.2.1
  obtain ⟨r1, Hr1⟩ : ∃ r, Hid (k.tmod 20 = r) := ⟨_, Lib.hid rfl⟩
  have hb1 : -20 < r1 ∧ r1 < 20 := by have := tmod_bd k 20 (by omega); rw [show ((20 : Nat) : Int) = 20 from rfl, Hr1.out] at this; exact this
  obtain ⟨b10, b11⟩ := hb1
  have hr1 := Hr1.out
  obtain ⟨z3, Hz3, hz3⟩ := and_mask17 z 3 (by decide)
  have hk3 : bits .and .i64 z 3 = (z3 : Int) := Hz3.out
  go_upto_if 77 with fail
  go_cut [16] (fun s wx => ∃ v : Nat, v < 20 ∧ s = .int .i64 v ∧ wx = wc)
  case first =>
    by_cases hneg : r1 < 0
    · go_wp2_with fail
      go_meet
      case rel => exact ⟨(-r1).toNat, by omega, by go_num, rfl⟩
    · go_wp2_with fail
      go_meet
      case rel => exact ⟨r1.toNat, by omega, by go_num, rfl⟩
  case rest =>
  obtain ⟨kn, hkn, rfl, hwc⟩ := hcut
  clear hr1 Hr1 b10 b11 a1 a0'
  have HM2 : Hid (RightM l M1 ∧ (Am = none → 4 = 0 ∧ cm = 0) ∧ IsG wc 1 encT Am 4 M1 ∧ Below W2.heap.size W2 wc) := Lib.hid (by rw [hwc]; exact HM1.out)
  clear hwc HM1 BW
  obtain ⟨zz, Hzz⟩ : ∃ x, Hid (zN l = x) := ⟨_, Lib.hid rfl⟩
  have hzz := zN_of HM2.out.1.ok
  rw [Hzz.out] at hzz
  obtain ⟨hlz, hz1, hz2⟩ := hzz
  have Hlz := Lib.hid hlz
  clear hlz
  obtain ⟨s, Hs⟩ : ∃ a, Hid (M1[z3]? = some a) := ⟨M1[z3]'(by rw [HM2.out.1.four]; omega), Lib.hid (List.getElem?_eq_getElem _)⟩
  obtain ⟨bn, Hbn, hbn⟩ : ∃ bn : Nat, Hid (layP l (z3 : Int) 0 = (bn : Int)) ∧ bn ≤ 20000 := by
    have h1 := mul_bds (LayOk.of HM2.out.1.ok) (z := z3) (by omega)
    have h2 := (LayOk.of HM2.out.1.ok).fb
    exact ⟨(layP l (z3 : Int) 0).toNat, Lib.hid (by rw [layP_ok HM2.out.1.ok (by omega)]; omega), by rw [layP_ok HM2.out.1.ok (by omega)]; omega⟩
  go_wp2_with fail
  go_loopw [17, 18] (fun o p wr => ∃ (j on : Nat), j ≤ zz ∧ Hid (nFree s j = on) ∧ on ≤ j ∧ o = .int .i64 on ∧ p = .int .i64 j ∧ Hid (Below wc.heap.size wc wr)) (fun _ p _ => zz - (intOf p).toNat)
  case atStart => exact ⟨0, 0, Nat.zero_le _, Lib.hid rfl, Nat.le_refl _, rfl, rfl, Lib.hid (Below.refl _ _)⟩
  case round =>
    obtain ⟨j, on, hj, Hon, hon, rfl, rfl, HB⟩ := hrel
    obtain ⟨e0, e1, e2, e3⟩ := L2.out.1.below (bnext HM2.out.2.2.2 HB.out)
    have hpl := (L2.out.1.below (bnext HM2.out.2.2.2 HB.out)).lt
    by_cases hlt : j < zz
    · have hjz : (j : Int) < l.z := by have := Hlz.out; omega
      have HT : Hid (takenM l M1 ((bn : Int) + (j : Int)) = Bm.bit s j) := Lib.hid (by
        have h1 := taken_sec HM2.out.1 (show z3 < 4 by omega) (show j < zN l by rw [Hzz.out]; exact hlt) Hs.out
        rw [← h1]
        congr 1
        have h2 := Hbn.out
        rw [layP_ok HM2.out.1.ok (by omega)] at h2
        unfold secT
        omega)
      have hwf : (Lit.int .i64 ((bn : Int) + (j : Int))).wf = true := by have := wf_small (bn + j) (by omega); rwa [Int.natCast_add] at this
      have q0 : ∀ y : In (Abv wr), y.u.cell? ⟨q, 0, none⟩ = some (.int .i64 l.s) := fun y => (y.is.cell (p := ⟨q, 0, none⟩) hpl).trans e0
      have q1 : ∀ y : In (Abv wr), y.u.cell? ⟨q, 1, none⟩ = some (.int .i64 l.n) := fun y => (y.is.cell (p := ⟨q, 1, none⟩) hpl).trans e1
      have q2 : ∀ y : In (Abv wr), y.u.cell? ⟨q, 2, none⟩ = some (.int .i64 l.f) := fun y => (y.is.cell (p := ⟨q, 2, none⟩) hpl).trans e2
      have q3 : ∀ y : In (Abv wr), y.u.cell? ⟨q, 3, none⟩ = some (.int .i64 l.z) := fun y => (y.is.cell (p := ⟨q, 3, none⟩) hpl).trans e3
      go_wp2_with fail
      refine wp_region_mix (by kernel_rfl) (Cls (Abv wr)) [(0, 0), (1, 0), (2, 0), (3, 0), (5, 0), (4, 1), (6, 0), (7, 1), (8, 0)] (by kernel_rfl) (cls (Below.refl _ _).drew) ?_
      repeat (refine mix0 rfl (fun K hK => ?_); go_simp; refine hK _ ?_; clear hK K)
      refine mix1 rfl (fun K hK => ?_)
      go_simp
      refine (Begin_any l (z3 : Int) _).mono ?_
      rw [Hbn.out]
      rintro e w3 ⟨rfl, b3⟩
      have B3 : Hid (Below wr.heap.size wr w3) := Lib.hid ((Below.refl _ _).drew.trans (b3.mono (Nat.le_refl _)))
      refine ⟨_, rfl, hK _ _ (cls B3.out) ?_⟩
      clear hK K b3
      refine mix0 rfl (fun K hK => ?_)
      go_simp
      refine hK _ ?_
      clear hK K
      refine mix1 rfl (fun K hK => ?_)
      go_simp
      rw [show IntKind.i64.wrap ((bn : Int) + (j : Int)) = (bn : Int) + (j : Int) from IntWalk.i64_in _ (by omega)]
      refine (STaken_any l Am 4 cm M1 ((bn : Int) + (j : Int)) hwf _ (HM2.out.2.2.1.below (bnext HB.out B3.out)) (e10.out M1 HM2.out.1)).mono ?_
      rw [HT.out]
      rintro e w4 ⟨rfl, b4⟩
      have B4 : Hid (Below wr.heap.size wr w4) := Lib.hid (bnext B3.out b4)
      refine ⟨_, rfl, hK _ _ (cls B4.out) ?_⟩
      clear hK K b4
      repeat (refine mix0 rfl (fun K hK => ?_); go_simp; refine hK _ ?_; clear hK K)
      refine mixEnd ?_
      clear q0 q1 q2 q3 e0 e1 e2 e3
      have hsc := nFree_succ s j
      rw [Hon.out] at hsc
      cases hb : Bm.bit s j with
      | true =>
        rw [hb, if_pos rfl] at hsc
        have Hsc := Lib.hid hsc
        clear hsc
        go_wp2_with fail
        go_roundw
        case rel => exact ⟨j + 1, on, by omega, Lib.hid (by rw [Hsc.out]; rfl), by omega, rfl, by go_num, Lib.hid (bnext HB.out B4.out)⟩
        case measure => simp [intOf]; omega
      | false =>
        rw [hb, if_neg (by decide)] at hsc
        have Hsc := Lib.hid hsc
        clear hsc
        go_wp2_with fail
        go_roundw
        case rel => exact ⟨j + 1, on + 1, by omega, Lib.hid Hsc.out, by omega, by go_num, by go_num, Lib.hid (bnext HB.out B4.out)⟩
        case measure => simp [intOf]; omega
    · obtain rfl : j = zz := by omega
      have hjz : ¬ (j : Int) < l.z := by have := Hlz.out; omega
      have HB2 : Hid (IsG wr 1 encT Am 4 M1 ∧ Below W2.heap.size W2 wr) := Lib.hid ⟨HM2.out.2.2.1.below HB.out, bnext HM2.out.2.2.2 HB.out⟩
      have hRM : rightM l M1 = true := rightM_iff.2 HM2.out.1
      go_wp2_with fail
      refine (Take_any l Am 4 cm M1 (z3 : Int) (kn : Int) wr HB2.out.1 (by decide) HM2.out.2.1 (e10.out M1 HM2.out.1)).mono ?_
      have hko := takeOk_eq HM2.out.1 (show z3 < 4 by omega) (k := kn)
      cases hk : takeOk l M1 (z3 : Int) (kn : Int) with
      | false =>
        rw [takeV_no hk]
        rintro e w3 ⟨⟨Aa, na, ca, va, rfl, _, _, _, _, _, hv⟩, b3⟩
        obtain rfl : va = .slice none 0 0 := by rcases hv with h | h; exact h; cases h
        have B3 := Lib.hid b3
        rw [hk] at hko
        obtain ⟨fr, Hfr⟩ : ∃ x, Hid (freeM l M1 = x) := ⟨_, Lib.hid rfl⟩
        rw [Hfr.out] at hko
        have hfk : fr < (kn : Int) := by have := of_decide_eq_false hko.symm; omega
        clear b3 hv e0 e1 e2 e3 hk hko hRM hlt hj
        obtain ⟨e0, e1, e2, e3⟩ := L2.out.1.below (bnext HB2.out.2 B3.out)
        go_wp2_with fail
        refine (SFree_any l Am 4 cm M1 w3 (HB2.out.1.below B3.out) (e10.out M1 HM2.out.1)).mono ?_
        rw [Hfr.out]
        rintro e w4 ⟨rfl, b4⟩
        have B4 : Hid (Below w.heap.size w w4) := Lib.hid (bnext RV.out.2.2 (bnext L2.out.2.1 (bnext HB2.out.2 (bnext B3.out b4))))
        clear b4
        go_wp2
        go_ret
        exact ⟨ret_bool (by first | rfl | simp), B4.out⟩
      | true =>
        rw [hk] at hko
        have Hfr : Hid ((kn : Int) ≤ freeM l M1) := Lib.hid (of_decide_eq_true hko.symm)
        have HV2 : Hid (takeV l M1 (z3 : Int) (kn : Int) = ((takeUp l M1 z3 kn 4).1, (takeUp l M1 z3 kn 4).2, true)) := Lib.hid (by rw [takeV, hk]; rfl)
        have HO : Hid (Owe l M1 (takeUp l M1 z3 kn 4).1 (takeUp l M1 z3 kn 4).2) := Lib.hid (takeUp_owe HM2.out.1 z3 kn 4)
        have HSn : Hid ((takeUp l M1 z3 kn 4).2.length = kn) := Lib.hid (takeUp_all HM2.out.1 z3 kn Hfr.out)
        have HIn : Hid (nIn l z3 (takeUp l M1 z3 kn 4).2 kn = min kn on) := Lib.hid (by
          have := nIn_take HM2.out.1 (nn := kn) (show z3 < 4 by omega) Hs.out
          rw [HSn.out, Hzz.out, Hon.out] at this
          exact this)
        obtain ⟨N, HN⟩ : ∃ x, Hid ((takeUp l M1 z3 kn 4).1 = x) := ⟨_, Lib.hid rfl⟩
        obtain ⟨S, HS⟩ : ∃ x, Hid ((takeUp l M1 z3 kn 4).2 = x) := ⟨_, Lib.hid rfl⟩
        rw [HN.out, HS.out] at HV2 HO
        rw [HS.out] at HSn HIn
        rw [HV2.out]
        have Hwf := Lib.hid (owe_wf HM2.out.1 HO.out)
        have Hnd := Lib.hid HO.out.nodup
        rintro e w3 ⟨⟨Aa, na, ca, va, rfl, _, sa, _, _, _, _⟩, b3⟩
        obtain ⟨As, cs, rfl⟩ : ∃ As cs, va = .slice As kn cs := by
          obtain ⟨As, cs, e⟩ := sa.shape
          rw [HSn.out] at e
          exact ⟨As, cs, e⟩
        have T3 : Hid (Below wr.heap.size wr w3 ∧ IsG w3 1 encI As kn S) := Lib.hid ⟨b3, (sa.is encI_ok).1⟩
        clear sa b3 e0 e1 e2 e3 hk hko hRM HB2 hlt hj HV2
        have L3 : Hid (LayAt w3 q l) := Lib.hid (L2.out.1.below (bnext HM2.out.2.2.2 (bnext HB.out T3.out.1)))
        have BB : Hid (Below w.heap.size w w3) := Lib.hid (bnext RV.out.2.2 (bnext L2.out.2.1 (bnext HM2.out.2.2.2 (bnext HB.out T3.out.1))))
        go_wp2_with fail
        go_loopw [22, 23] (fun a i wr => ∃ (i3 inn : Nat), i3 ≤ kn ∧ Hid (nIn l z3 S i3 = inn) ∧ inn ≤ i3 ∧ a = .int .i64 inn ∧ i = .int .i64 i3 ∧ Hid (Below w3.heap.size w3 wr)) (fun _ i _ => kn - (intOf i).toNat)
        case atStart => exact ⟨0, 0, Nat.zero_le _, Lib.hid rfl, Nat.le_refl _, rfl, rfl, Lib.hid (Below.refl _ _)⟩
        case round =>
          rename_i wo _ _ _
          obtain ⟨i3, inn, hi3, Hin, hinn, rfl, rfl, HB3⟩ := hrel
          by_cases hlt : i3 < kn
          · have hik : (i3 : Int) < (kn : Int) := by omega
            have hi0 : (0 : Int) ≤ (i3 : Int) := by omega
            obtain ⟨x, Hx⟩ : ∃ a, Hid (S[i3]? = some a) := ⟨S[i3]'(by have := HSn.out; omega), Lib.hid (List.getElem?_eq_getElem _)⟩
            have hxw := Hwf.out x (List.mem_of_getElem? Hx.out)
            obtain ⟨gx, ox, hAs, hgx, hcx⟩ := (T3.out.2.below HB3.out).cells (by omega)
            subst hAs
            have d0 := hcx i3 x 0 _ Hx.out rfl
            rw [Nat.mul_one, Nat.add_zero] at d0
            obtain ⟨e0, e1, e2, e3⟩ := L3.out.below HB3.out
            have hpl := (L3.out.below HB3.out).lt
            obtain ⟨wi, Hwi⟩ : ∃ u, Hid (wr = u) := ⟨_, Lib.hid rfl⟩
            have q0 : ∀ y : In (Abv wr), y.u.cell? ⟨q, 0, none⟩ = some (.int .i64 l.s) := fun y => (y.is.cell (p := ⟨q, 0, none⟩) hpl).trans e0
            have q1 : ∀ y : In (Abv wr), y.u.cell? ⟨q, 1, none⟩ = some (.int .i64 l.n) := fun y => (y.is.cell (p := ⟨q, 1, none⟩) hpl).trans e1
            have q2 : ∀ y : In (Abv wr), y.u.cell? ⟨q, 2, none⟩ = some (.int .i64 l.f) := fun y => (y.is.cell (p := ⟨q, 2, none⟩) hpl).trans e2
            have q3 : ∀ y : In (Abv wr), y.u.cell? ⟨q, 3, none⟩ = some (.int .i64 l.z) := fun y => (y.is.cell (p := ⟨q, 3, none⟩) hpl).trans e3
            have q4 : ∀ y : In (Abv wr), y.u.cell? ⟨gx, ox + i3, none⟩ = some (.int .i64 x) := fun y => (y.is.cell (p := ⟨gx, ox + i3, none⟩) (lt_of_cell d0)).trans d0
            obtain ⟨zv, Hzv⟩ : ∃ t, Hid ((layZP l x).1 = t) := ⟨_, Lib.hid rfl⟩
            have Hsc := Lib.hid (nIn_succ (l := l) (z := z3) Hx.out)
            rw [Hzv.out, Hin.out] at Hsc
            clear hcx
            go_wp2_with fail
            refine wp_region_mix (by kernel_rfl) (Cls (Abv wr)) [(0, 0), (1, 0), (2, 0), (3, 0), (4, 0), (6, 0), (5, 1), (7, 0)] (by kernel_rfl) (cls (Below.refl _ _).drew) ?_
            repeat (refine mix0 rfl (fun K hK => ?_); go_simp; refine hK _ ?_; clear hK K)
            refine mix1 rfl (fun K hK => ?_)
            go_simp
            refine (Zone_any l x hxw _).mono ?_
            rw [Hzv.out]
            rintro e w4 ⟨rfl, b4⟩
            have B4 : Hid (Below wr.heap.size wr w4) := Lib.hid ((Below.refl _ _).drew.trans (b4.mono (Nat.le_refl _)))
            refine ⟨_, rfl, hK _ _ (cls B4.out) ?_⟩
            clear hK K b4
            repeat (refine mix0 rfl (fun K hK => ?_); go_simp; refine hK _ ?_; clear hK K)
            refine mixEnd ?_
            clear q0 q1 q2 q3 q4 e0 e1 e2 e3 d0
            go_upto_if 129 with fail
            go_cut [22] (fun s wx => ∃ inn' : Nat, Hid (nIn l z3 S (i3 + 1) = inn') ∧ inn' ≤ i3 + 1 ∧ s = .int .i64 inn' ∧ Hid (Below wr.heap.size wr wx))
            case first =>
              by_cases hz : zv = (z3 : Int)
              · have Hs1 : Hid (nIn l z3 S (i3 + 1) = inn + 1) := Lib.hid (by rw [Hsc.out, if_pos hz])
                go_wp2_with fail
                go_meet
                case rel => exact ⟨inn + 1, Hs1, by omega, by go_num, B4⟩
              · have Hs1 : Hid (nIn l z3 S (i3 + 1) = inn) := Lib.hid (by rw [Hsc.out, if_neg hz]; rfl)
                go_wp2_with fail
                go_meet
                case rel => exact ⟨inn, Hs1, by omega, rfl, B4⟩
            case rest =>
            obtain ⟨inn', Hin', hinn', rfl, HB4⟩ := hcut
            have HX4 : Hid (IsG wc 1 encI (some ⟨gx, ox, none⟩) kn S ∧ Below w3.heap.size w3 wc) := Lib.hid ⟨T3.out.2.below (bnext HB3.out HB4.out), bnext HB3.out HB4.out⟩
            go_wp2_with fail
            go_loopw [24] (fun i2 wr2 => ∃ j4 : Nat, j4 ≤ i3 ∧ i2 = .int .i64 j4 ∧ Hid (Below wc.heap.size wc wr2)) (fun i2 _ => i3 - (intOf i2).toNat)
            case atStart => exact ⟨0, Nat.zero_le _, rfl, Lib.hid (Below.refl _ _)⟩
            case round =>
              obtain ⟨j4, hj4, rfl, HB5⟩ := hrel
              by_cases hlt4 : j4 < i3
              · have hji : (j4 : Int) < (i3 : Int) := by omega
                have hjk : (j4 : Int) < (kn : Int) := by omega
                have hj0 : (0 : Int) ≤ (j4 : Int) := by omega
                have hjkn : j4 < kn := by omega
                obtain ⟨x4, Hx4⟩ : ∃ a, Hid (S[j4]? = some a) := ⟨S[j4]'(by have := HSn.out; omega), Lib.hid (List.getElem?_eq_getElem _)⟩
                have hne : (x4 == x) = false := by
                  have h1 := List.getElem?_eq_some_iff.1 Hx.out
                  have h2 := List.getElem?_eq_some_iff.1 Hx4.out
                  obtain ⟨h1, e1⟩ := h1
                  obtain ⟨h2, e2⟩ := h2
                  rw [beq_eq_false_iff_ne, ← e1, ← e2]
                  intro e
                  have := (List.getElem_inj Hnd.out).1 e
                  omega
                obtain ⟨_, _, hAs, _, hcx⟩ := (HX4.out.1.below HB5.out).cells (by omega)
                injection hAs with hAs
                injection hAs with h1 h2 h3
                subst h1 h2
                have d0 := hcx i3 x 0 _ Hx.out rfl
                have d1 := hcx j4 x4 0 _ Hx4.out rfl
                rw [Nat.mul_one, Nat.add_zero] at d0 d1
                have q0 : ∀ y : In (Abv wr), y.u.cell? ⟨gx, ox + i3, none⟩ = some (.int .i64 x) := fun y => (y.is.cell (p := ⟨gx, ox + i3, none⟩) (lt_of_cell d0)).trans d0
                have q1 : ∀ y : In (Abv wr), y.u.cell? ⟨gx, ox + j4, none⟩ = some (.int .i64 x4) := fun y => (y.is.cell (p := ⟨gx, ox + j4, none⟩) (lt_of_cell d1)).trans d1
                clear hcx
                go_wp2_with fail
                refine wp_region_mix (by kernel_rfl) (Cls (Abv wr)) [(0, 0), (1, 0), (2, 0), (3, 0), (4, 0), (5, 0), (6, 0), (7, 0), (8, 0)] (by kernel_rfl) (cls (Below.refl _ _).drew) ?_
                repeat (refine mix0 rfl (fun K hK => ?_); go_simp; (try rw [hne]); refine hK _ ?_; clear hK K)
                refine mixEnd ?_
                clear q0 q1 d0 d1 hne
                go_wp2_with fail
                go_roundw
                case rel => exact ⟨j4 + 1, by omega, by go_num, Lib.hid (HB5.out.drew)⟩
                case measure => simp [intOf]; omega
              · obtain rfl : j4 = i3 := by omega
                have hji : ¬ (j4 : Int) < (j4 : Int) := by omega
                go_wp2_with fail
                go_roundw
                case rel => exact ⟨j4 + 1, inn', by omega, Hin', by omega, rfl, by go_num, Lib.hid (bnext HX4.out.2 HB5.out)⟩
                case measure => simp [intOf]; omega
          · obtain rfl : i3 = kn := by omega
            have hik : ¬ (i3 : Int) < (i3 : Int) := by omega
            have hmin : inn = min i3 on := by rw [← Hin.out, HIn.out]
            have F : Hid (Below w.heap.size w wr) := Lib.hid (bnext BB.out HB3.out)
            by_cases ho : on < i3
            · have hoi : (on : Int) < (i3 : Int) := by omega
              obtain rfl : inn = on := by omega
              clear hmin
              go_wp2_with fail
              go_ret
              exact ⟨ret_bool (by first | rfl | simp), F.out⟩
            · have hoi : ¬ (on : Int) < (i3 : Int) := by omega
              obtain rfl : inn = i3 := by omega
              clear hmin
              go_wp2_with fail
              go_ret
              exact ⟨ret_bool (by first | rfl | simp), F.out⟩
theorem own : ownKnob Try.prog.godebug = none := by kernel_rfl
theorem laidOut : laidOutB Try.prog = true := by kernel_rfl
set_option maxRecDepth 100000 in
theorem lifted (os : Os) (started : os.Started) (H : Type) (enc : TypeId × Value → H) :
    ReturnsInHanded {} Try.checked os 4 .any (Rows.spaceZoneSpec.pre6 enc Try.prog Try.f4 Rows.spaceZoneRow.domain false) (Rows.spaceZoneSpec.post enc Try.prog Try.f4 false true false false) := by
  refine returnsInHanded_of_change (C := Try.checked) own started (by kernel_rfl) Try.func4
    (ChangeSpec.witness6 (enc := enc) (C := Try.checked) false ⟨#[], #[.int .i64 0, .slice none 0 0, .agg #[.int .i64 0, .int .i64 0, .slice none 0 0]], []⟩ 8 (by kernel_rfl) (by kernel_rfl) (by kernel_rfl) (by kernel_rfl)) ?_
  intro W base args ds gs before hval0 hW hcnd _
  have hval : ∀ (j : Nat) t v, Try.f4.params[j]? = some t → args[j]? = some v → Value.okWide Try.prog W .any base t v := hval0
  have hW' := hW
  obtain ⟨p, q, hA0, hV, rfl, hfz, hnd⟩ := hW
  have hA : DataW.TrodAll enc Try.prog W 0 (fun _ => true) true Try.f4.params.toList args.toList ds p := hA0
  rw [Try.params4] at hA hval
  obtain ⟨v0, vs0, d0, ds0, p0, q0, hargs, rfl, rfl, h0, r0⟩ := trodAll_cons hA
  obtain ⟨v1, vs1, d1, ds1, p1, q1, rfl, rfl, rfl, h1, r1⟩ := trodAll_cons r0
  obtain ⟨v2, vs2, d2, ds2, p2, q2, rfl, rfl, rfl, h2, r2⟩ := trodAll_cons r1
  obtain ⟨rfl, rfl, rfl⟩ := trodAll_nil r2
  obtain rfl : args = #[v0, v1, v2] := by cases args; simp_all
  obtain ⟨a0, rfl, rfl, rfl, w0⟩ := open_int Try.underlying3 (hval 0 3 v0 rfl rfl) h0
  obtain ⟨x1, len1, cap1, a1, rfl, w1, y1⟩ := opens_asks (hval 1 22 v1 rfl rfl) h1
  obtain ⟨z2, k2, x2, a2, n2, c2, rfl, w2⟩ := open_ask (hval 2 32 v2 rfl rfl) h2
  clear hA0 hval0
  refine (walk a0 x1 len1 cap1 a1 z2 k2 x2 a2 n2 c2 W w0 w1 y1 w2).mono fun e W' ⟨he, bel⟩ => ?_
  subst he
  exact ⟨_, rfl, law_post laidOut (by rw [Try.params4]; decide +kernel) rfl Try.underlying4 rfl hW' (fun _ => rfl) bel⟩
theorem over : Rows.spaceZoneRow.holds Try.pinned (OpenSpec.ofChange Rows.spaceZoneSpec) :=
  OpenClaim.holds_of_wide 4 Try.f4 rfl rfl rfl rfl rfl rfl rfl ⟨rfl, rfl, rfl, rfl, rfl⟩ rfl rfl rfl rfl rfl (by kernel_rfl) Try.func4 (by kernel_rfl)
    (of_decide_eq_true (by kernel_rfl)) (by unfold Func.isWrapper; first | (rw [if_pos (by decide +kernel)]; kernel_rfl) | (rw [if_neg (by decide +kernel)]; exact ⟨rfl, rfl⟩))
    (fun os started H enc _ => lifted os started H enc)
theorem proved : Rows.SpaceZoneSaid := over
end Go.Proofs.Ytoakjcmhmlngfaa.spaceZone
