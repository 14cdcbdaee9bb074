/- The document's Check of inodes, at this translation. -/
import Derived.Test.YtdlbibhekoobjaaCk14
namespace Go.Proofs.Ytdlbibhekoobjaa
open Go.RowKit

set_option maxRecDepth 100000 in
set_option maxHeartbeats 8000000 in
theorem XCheck_any (x : Ino) (A : Option Addr) (n c : Nat) (hn : n ≤ 1000) (hws : (Lit.int .i64 x.s).wf = true) (w : World) (h : IsG w 1 encI A n x.d) :
    Calls Try.prog 17 #[inoV x A n c] w fun e w' => e = .returned (.int .i64 (inoE x)) ∧ Below w.heap.size w w' := by
  have Hws := Lib.hid hws
  obtain ⟨p, Hp⟩ : ∃ p, Hid (w.heap.size = p) := ⟨_, Lib.hid rfl⟩
  obtain ⟨W, HW⟩ : ∃ z, Hid (w.alloc (.cells #[.int .i64 x.k, .int .i64 x.l, .int .i64 x.s, .slice A n c] 24) = z) := ⟨_, Lib.hid rfl⟩
  have BW : Hid (Below w.heap.size w W) := Lib.hid (by rw [← HW.out]; exact balloc (Below.refl _ w) _)
  have HI : Hid (InoAt W p x A n c) := Lib.hid (by rw [← HW.out, ← Hp.out]; exact InoAt.new w x A n c _)
  have Hd : Hid (IsG W 1 encI A n x.d) := Lib.hid (h.below BW.out)
  have hlen := h.length
  have Hlen := Lib.hid hlen
  obtain ⟨N, HN⟩ : ∃ b, Hid (needI x.s = b) := ⟨_, Lib.hid rfl⟩
  obtain ⟨Q, HA⟩ : ∃ b, Hid (anyI (badQ x.d) n = b) := ⟨_, Lib.hid rfl⟩
  obtain ⟨PB, HPB⟩ : ∃ b, Hid ((!(linkB x.k x.l && (decide (0 ≤ x.s) && (decide (x.s ≤ 6144) && decide ((n : Int) = N))))) = b) := ⟨_, Lib.hid rfl⟩
  have Hr : Hid (inoE x = if PB then 1 else if Q then 1 else 0) := Lib.hid (by
    rw [inoE, inoB, HN.out, hlen, HA.out, ← HPB.out]
    cases linkB x.k x.l <;> cases decide (0 ≤ x.s) <;> cases decide (x.s ≤ 6144) <;> cases decide ((n : Int) = N) <;> cases Q <;> rfl)
  obtain ⟨R, HRR⟩ : ∃ z : Int, Hid ((if PB then (1 : Int) else if Q then 1 else 0) = z) := ⟨_, Lib.hid rfl⟩
  rw [Hr.out, HRR.out]
  have hdl : x.d.length ≤ 1000 := by omega
  have q0 : ∀ y : In (Abv W), y.u.cell? ⟨p, 0, none⟩ = some (.int .i64 x.k) := fun y => (HI.out.below y.is).c0
  have q1 : ∀ y : In (Abv W), y.u.cell? ⟨p, 1, none⟩ = some (.int .i64 x.l) := fun y => (HI.out.below y.is).c1
  have q2 : ∀ y : In (Abv W), y.u.cell? ⟨p, 2, none⟩ = some (.int .i64 x.s) := fun y => (HI.out.below y.is).c2
  have q3 : ∀ y : In (Abv W), y.u.cell? ⟨p, 3, none⟩ = some (.slice A n c) := fun y => (HI.out.below y.is).c3
  rw [inoV]
  clear h hws hlen
  go_enter Try.func17, Try.ntmps17
  go_upto_region 1 with fail
  rw [HW.out, Hp.out]
  go_cut [51] (fun b wx => b = .bool PB ∧ Hid (Below W.heap.size W wx))
  case first =>
    by_cases k1 : x.k = 1
    · have b1 : (x.k != 1) = false := by simp [k1]
      have b2 : (x.k == 2) = false := by simp [k1]
      have hL : linkB x.k x.l = (decide (1 ≤ x.l) && decide (x.l ≤ 1000)) := if_pos k1
      clear k1
      by_cases l1 : x.l < 1
      · refine wp_region_mix (by kernel_rfl) (Cls (Abv W)) ((0, 0) :: (1, 0) :: (2, 0) :: (3, 0) :: (4, 0) :: (5, 0) :: (6, 0) :: (7, 0) :: (8, 0) :: (9, 0) :: (10, 0) :: (11, 0) :: (12, 0) :: (13, 0) :: (14, 0) :: (15, 0) :: (16, 0) :: (17, 0) :: (18, 0) :: (19, 0) :: (20, 0) :: (21, 0) :: (22, 0) :: (23, 0) :: (24, 0) :: (25, 0) :: (26, 0) :: (27, 0) :: (28, 0) :: (29, 0) :: (30, 0) :: (31, 0) :: (32, 0) :: (33, 0) :: (34, 0) :: (35, 0) :: (36, 0) :: (37, 0) :: (38, 0) :: (39, 0) :: (40, 0) :: (41, 0) :: (42, 0) :: (43, 0) :: (44, 1) :: (45, 0) :: (46, 0) :: []) (by kernel_rfl) (cls (Below.refl _ W).drew) ?_
        have D0 : Hid (Below W.heap.size W W.drew) := Lib.hid (Below.refl _ W).drew
        repeat (refine mix0 rfl (fun K hK => ?_); go_simp; refine hK _ ?_; clear hK K)
        refine mix1 rfl (fun K hK => ?_)
        go_simp
        refine hK _ _ (cls D0.out) ?_
        clear hK K
        repeat (refine mix0 rfl (fun K hK => ?_); go_simp; refine hK _ ?_; clear hK K)
        refine mixEnd ?_
        go_wp2_with fail
        go_meet
        case rel => exact ⟨by rw [show PB = true from HPB.out.symm.trans (by rw [hL]; simp; try omega)]; try rfl, D0⟩
      by_cases l2 : 1000 < x.l
      · refine wp_region_mix (by kernel_rfl) (Cls (Abv W)) ((0, 0) :: (1, 0) :: (2, 0) :: (3, 0) :: (4, 0) :: (5, 0) :: (6, 0) :: (7, 0) :: (8, 0) :: (9, 0) :: (10, 0) :: (11, 0) :: (12, 0) :: (13, 0) :: (14, 0) :: (15, 0) :: (16, 0) :: (17, 0) :: (18, 0) :: (19, 0) :: (20, 0) :: (21, 0) :: (22, 0) :: (23, 0) :: (24, 0) :: (25, 0) :: (26, 0) :: (27, 0) :: (28, 0) :: (29, 0) :: (30, 0) :: (31, 0) :: (32, 0) :: (33, 0) :: (34, 0) :: (35, 0) :: (36, 0) :: (37, 0) :: (38, 0) :: (39, 0) :: (40, 0) :: (41, 0) :: (42, 0) :: (43, 0) :: (44, 1) :: (45, 0) :: (46, 0) :: []) (by kernel_rfl) (cls (Below.refl _ W).drew) ?_
        have D0 : Hid (Below W.heap.size W W.drew) := Lib.hid (Below.refl _ W).drew
        repeat (refine mix0 rfl (fun K hK => ?_); go_simp; refine hK _ ?_; clear hK K)
        refine mix1 rfl (fun K hK => ?_)
        go_simp
        refine hK _ _ (cls D0.out) ?_
        clear hK K
        repeat (refine mix0 rfl (fun K hK => ?_); go_simp; refine hK _ ?_; clear hK K)
        refine mixEnd ?_
        go_wp2_with fail
        go_meet
        case rel => exact ⟨by rw [show PB = true from HPB.out.symm.trans (by rw [hL]; simp; try omega)]; try rfl, D0⟩
      by_cases s1 : x.s < 0
      · refine wp_region_mix (by kernel_rfl) (Cls (Abv W)) ((0, 0) :: (1, 0) :: (2, 0) :: (3, 0) :: (4, 0) :: (5, 0) :: (6, 0) :: (7, 0) :: (8, 0) :: (9, 0) :: (10, 0) :: (11, 0) :: (12, 0) :: (13, 0) :: (14, 0) :: (15, 0) :: (16, 0) :: (17, 0) :: (18, 0) :: (19, 0) :: (20, 0) :: (21, 0) :: (22, 0) :: (23, 0) :: (24, 0) :: (25, 0) :: (26, 0) :: (27, 0) :: (28, 0) :: (29, 0) :: (30, 0) :: (31, 0) :: (32, 0) :: (33, 0) :: (34, 0) :: (35, 0) :: (36, 0) :: (37, 0) :: (38, 0) :: (39, 0) :: (40, 0) :: (41, 0) :: (42, 0) :: (43, 0) :: (44, 1) :: (45, 0) :: (46, 0) :: []) (by kernel_rfl) (cls (Below.refl _ W).drew) ?_
        have D0 : Hid (Below W.heap.size W W.drew) := Lib.hid (Below.refl _ W).drew
        repeat (refine mix0 rfl (fun K hK => ?_); go_simp; refine hK _ ?_; clear hK K)
        refine mix1 rfl (fun K hK => ?_)
        go_simp
        refine hK _ _ (cls D0.out) ?_
        clear hK K
        repeat (refine mix0 rfl (fun K hK => ?_); go_simp; refine hK _ ?_; clear hK K)
        refine mixEnd ?_
        go_wp2_with fail
        go_meet
        case rel => exact ⟨by rw [show PB = true from HPB.out.symm.trans (by rw [hL]; simp; try omega)]; try rfl, D0⟩
      by_cases s2 : 6144 < x.s
      · refine wp_region_mix (by kernel_rfl) (Cls (Abv W)) ((0, 0) :: (1, 0) :: (2, 0) :: (3, 0) :: (4, 0) :: (5, 0) :: (6, 0) :: (7, 0) :: (8, 0) :: (9, 0) :: (10, 0) :: (11, 0) :: (12, 0) :: (13, 0) :: (14, 0) :: (15, 0) :: (16, 0) :: (17, 0) :: (18, 0) :: (19, 0) :: (20, 0) :: (21, 0) :: (22, 0) :: (23, 0) :: (24, 0) :: (25, 0) :: (26, 0) :: (27, 0) :: (28, 0) :: (29, 0) :: (30, 0) :: (31, 0) :: (32, 0) :: (33, 0) :: (34, 0) :: (35, 0) :: (36, 0) :: (37, 0) :: (38, 0) :: (39, 0) :: (40, 0) :: (41, 0) :: (42, 0) :: (43, 0) :: (44, 1) :: (45, 0) :: (46, 0) :: []) (by kernel_rfl) (cls (Below.refl _ W).drew) ?_
        have D0 : Hid (Below W.heap.size W W.drew) := Lib.hid (Below.refl _ W).drew
        repeat (refine mix0 rfl (fun K hK => ?_); go_simp; refine hK _ ?_; clear hK K)
        refine mix1 rfl (fun K hK => ?_)
        go_simp
        refine hK _ _ (cls D0.out) ?_
        clear hK K
        repeat (refine mix0 rfl (fun K hK => ?_); go_simp; refine hK _ ?_; clear hK K)
        refine mixEnd ?_
        go_wp2_with fail
        go_meet
        case rel => exact ⟨by rw [show PB = true from HPB.out.symm.trans (by rw [hL]; simp; try omega)]; try rfl, D0⟩
      by_cases hnN : (n : Int) = N
      · have hb : ((n : Int) != N) = false := by simp [hnN]
        have hv : (!(decide (1 ≤ x.l) && decide (x.l ≤ 1000) && (decide (0 ≤ x.s) && (decide (x.s ≤ 6144) && decide ((n : Int) = N))))) = false := by simp [hnN]; omega
        clear hnN
        refine wp_region_mix (by kernel_rfl) (Cls (Abv W)) ((0, 0) :: (1, 0) :: (2, 0) :: (3, 0) :: (4, 0) :: (5, 0) :: (6, 0) :: (7, 0) :: (8, 0) :: (9, 0) :: (10, 0) :: (11, 0) :: (12, 0) :: (13, 0) :: (14, 0) :: (15, 0) :: (16, 0) :: (17, 0) :: (18, 0) :: (19, 0) :: (20, 0) :: (21, 0) :: (22, 0) :: (23, 0) :: (24, 0) :: (25, 0) :: (26, 0) :: (27, 0) :: (28, 0) :: (29, 0) :: (30, 0) :: (31, 0) :: (32, 0) :: (33, 0) :: (34, 0) :: (35, 0) :: (36, 0) :: (37, 0) :: (38, 0) :: (39, 0) :: (40, 0) :: (41, 0) :: (42, 0) :: (43, 0) :: (44, 1) :: (45, 0) :: (46, 0) :: []) (by kernel_rfl) (cls (Below.refl _ W).drew) ?_
        have D0 : Hid (Below W.heap.size W W.drew) := Lib.hid (Below.refl _ W).drew
        repeat (refine mix0 rfl (fun K hK => ?_); go_simp; refine hK _ ?_; clear hK K)
        refine mix1 rfl (fun K hK => ?_)
        go_simp
        refine (XNeed_any _ Hws.out _).mono ?_
        rw [HN.out]
        rintro e w2 ⟨rfl, rfl⟩
        refine ⟨_, rfl, hK _ _ (cls D0.out) ?_⟩
        clear hK K
        repeat (refine mix0 rfl (fun K hK => ?_); go_simp; refine hK _ ?_; clear hK K)
        refine mixEnd ?_
        go_wp2_with fail
        go_meet
        case rel => exact ⟨by rw [show PB = false from HPB.out.symm.trans (by rw [hL]; exact hv)]; try rfl, D0⟩
      · have hb : ((n : Int) != N) = true := by simp [hnN]
        have hv : (!(decide (1 ≤ x.l) && decide (x.l ≤ 1000) && (decide (0 ≤ x.s) && (decide (x.s ≤ 6144) && decide ((n : Int) = N))))) = true := by simp [hnN]
        clear hnN
        refine wp_region_mix (by kernel_rfl) (Cls (Abv W)) ((0, 0) :: (1, 0) :: (2, 0) :: (3, 0) :: (4, 0) :: (5, 0) :: (6, 0) :: (7, 0) :: (8, 0) :: (9, 0) :: (10, 0) :: (11, 0) :: (12, 0) :: (13, 0) :: (14, 0) :: (15, 0) :: (16, 0) :: (17, 0) :: (18, 0) :: (19, 0) :: (20, 0) :: (21, 0) :: (22, 0) :: (23, 0) :: (24, 0) :: (25, 0) :: (26, 0) :: (27, 0) :: (28, 0) :: (29, 0) :: (30, 0) :: (31, 0) :: (32, 0) :: (33, 0) :: (34, 0) :: (35, 0) :: (36, 0) :: (37, 0) :: (38, 0) :: (39, 0) :: (40, 0) :: (41, 0) :: (42, 0) :: (43, 0) :: (44, 1) :: (45, 0) :: (46, 0) :: []) (by kernel_rfl) (cls (Below.refl _ W).drew) ?_
        have D0 : Hid (Below W.heap.size W W.drew) := Lib.hid (Below.refl _ W).drew
        repeat (refine mix0 rfl (fun K hK => ?_); go_simp; refine hK _ ?_; clear hK K)
        refine mix1 rfl (fun K hK => ?_)
        go_simp
        refine (XNeed_any _ Hws.out _).mono ?_
        rw [HN.out]
        rintro e w2 ⟨rfl, rfl⟩
        refine ⟨_, rfl, hK _ _ (cls D0.out) ?_⟩
        clear hK K
        repeat (refine mix0 rfl (fun K hK => ?_); go_simp; refine hK _ ?_; clear hK K)
        refine mixEnd ?_
        go_wp2_with fail
        go_meet
        case rel => exact ⟨by rw [show PB = true from HPB.out.symm.trans (by rw [hL]; exact hv)]; try rfl, D0⟩
    by_cases k2 : x.k = 2
    · have b1 : (x.k != 1) = true := by simp [k2]
      have b2 : (x.k == 2) = true := by simp [k2]
      have b3 : (x.k != 2) = false := by simp [k2]
      have hL : linkB x.k x.l = decide (x.l = 1) := by rw [linkB, if_neg k1, if_pos k2]
      clear k1 k2
      by_cases l1 : x.l < 1
      · refine wp_region_mix (by kernel_rfl) (Cls (Abv W)) ((0, 0) :: (1, 0) :: (2, 0) :: (3, 0) :: (4, 0) :: (5, 0) :: (6, 0) :: (7, 0) :: (8, 0) :: (9, 0) :: (10, 0) :: (11, 0) :: (12, 0) :: (13, 0) :: (14, 0) :: (15, 0) :: (16, 0) :: (17, 0) :: (18, 0) :: (19, 0) :: (20, 0) :: (21, 0) :: (22, 0) :: (23, 0) :: (24, 0) :: (25, 0) :: (26, 0) :: (27, 0) :: (28, 0) :: (29, 0) :: (30, 0) :: (31, 0) :: (32, 0) :: (33, 0) :: (34, 0) :: (35, 0) :: (36, 0) :: (37, 0) :: (38, 0) :: (39, 0) :: (40, 0) :: (41, 0) :: (42, 0) :: (43, 0) :: (44, 1) :: (45, 0) :: (46, 0) :: []) (by kernel_rfl) (cls (Below.refl _ W).drew) ?_
        have D0 : Hid (Below W.heap.size W W.drew) := Lib.hid (Below.refl _ W).drew
        repeat (refine mix0 rfl (fun K hK => ?_); go_simp; refine hK _ ?_; clear hK K)
        refine mix1 rfl (fun K hK => ?_)
        go_simp
        refine hK _ _ (cls D0.out) ?_
        clear hK K
        repeat (refine mix0 rfl (fun K hK => ?_); go_simp; refine hK _ ?_; clear hK K)
        refine mixEnd ?_
        go_wp2_with fail
        go_meet
        case rel => exact ⟨by rw [show PB = true from HPB.out.symm.trans (by rw [hL]; simp; try omega)]; try rfl, D0⟩
      by_cases l2 : 1000 < x.l
      · refine wp_region_mix (by kernel_rfl) (Cls (Abv W)) ((0, 0) :: (1, 0) :: (2, 0) :: (3, 0) :: (4, 0) :: (5, 0) :: (6, 0) :: (7, 0) :: (8, 0) :: (9, 0) :: (10, 0) :: (11, 0) :: (12, 0) :: (13, 0) :: (14, 0) :: (15, 0) :: (16, 0) :: (17, 0) :: (18, 0) :: (19, 0) :: (20, 0) :: (21, 0) :: (22, 0) :: (23, 0) :: (24, 0) :: (25, 0) :: (26, 0) :: (27, 0) :: (28, 0) :: (29, 0) :: (30, 0) :: (31, 0) :: (32, 0) :: (33, 0) :: (34, 0) :: (35, 0) :: (36, 0) :: (37, 0) :: (38, 0) :: (39, 0) :: (40, 0) :: (41, 0) :: (42, 0) :: (43, 0) :: (44, 1) :: (45, 0) :: (46, 0) :: []) (by kernel_rfl) (cls (Below.refl _ W).drew) ?_
        have D0 : Hid (Below W.heap.size W W.drew) := Lib.hid (Below.refl _ W).drew
        repeat (refine mix0 rfl (fun K hK => ?_); go_simp; refine hK _ ?_; clear hK K)
        refine mix1 rfl (fun K hK => ?_)
        go_simp
        refine hK _ _ (cls D0.out) ?_
        clear hK K
        repeat (refine mix0 rfl (fun K hK => ?_); go_simp; refine hK _ ?_; clear hK K)
        refine mixEnd ?_
        go_wp2_with fail
        go_meet
        case rel => exact ⟨by rw [show PB = true from HPB.out.symm.trans (by rw [hL]; simp; try omega)]; try rfl, D0⟩
      by_cases l3 : x.l = 1
      case neg =>
        have b4 : (x.l != 1) = true := by simp [l3]
        clear l3
        have l3 : x.l ≠ 1 := by simpa using b4
        refine wp_region_mix (by kernel_rfl) (Cls (Abv W)) ((0, 0) :: (1, 0) :: (2, 0) :: (3, 0) :: (4, 0) :: (5, 0) :: (6, 0) :: (7, 0) :: (8, 0) :: (9, 0) :: (10, 0) :: (11, 0) :: (12, 0) :: (13, 0) :: (14, 0) :: (15, 0) :: (16, 0) :: (17, 0) :: (18, 0) :: (19, 0) :: (20, 0) :: (21, 0) :: (22, 0) :: (23, 0) :: (24, 0) :: (25, 0) :: (26, 0) :: (27, 0) :: (28, 0) :: (29, 0) :: (30, 0) :: (31, 0) :: (32, 0) :: (33, 0) :: (34, 0) :: (35, 0) :: (36, 0) :: (37, 0) :: (38, 0) :: (39, 0) :: (40, 0) :: (41, 0) :: (42, 0) :: (43, 0) :: (44, 1) :: (45, 0) :: (46, 0) :: []) (by kernel_rfl) (cls (Below.refl _ W).drew) ?_
        have D0 : Hid (Below W.heap.size W W.drew) := Lib.hid (Below.refl _ W).drew
        repeat (refine mix0 rfl (fun K hK => ?_); go_simp; refine hK _ ?_; clear hK K)
        refine mix1 rfl (fun K hK => ?_)
        go_simp
        refine hK _ _ (cls D0.out) ?_
        clear hK K
        repeat (refine mix0 rfl (fun K hK => ?_); go_simp; refine hK _ ?_; clear hK K)
        refine mixEnd ?_
        go_wp2_with fail
        go_meet
        case rel => exact ⟨by rw [show PB = true from HPB.out.symm.trans (by rw [hL]; simp; try omega)]; try rfl, D0⟩
      have b4 : (x.l != 1) = false := by simp [l3]
      have hL2 : decide (x.l = 1) = true := by simp [l3]
      clear l3
      rw [hL2] at hL
      by_cases s1 : x.s < 0
      · refine wp_region_mix (by kernel_rfl) (Cls (Abv W)) ((0, 0) :: (1, 0) :: (2, 0) :: (3, 0) :: (4, 0) :: (5, 0) :: (6, 0) :: (7, 0) :: (8, 0) :: (9, 0) :: (10, 0) :: (11, 0) :: (12, 0) :: (13, 0) :: (14, 0) :: (15, 0) :: (16, 0) :: (17, 0) :: (18, 0) :: (19, 0) :: (20, 0) :: (21, 0) :: (22, 0) :: (23, 0) :: (24, 0) :: (25, 0) :: (26, 0) :: (27, 0) :: (28, 0) :: (29, 0) :: (30, 0) :: (31, 0) :: (32, 0) :: (33, 0) :: (34, 0) :: (35, 0) :: (36, 0) :: (37, 0) :: (38, 0) :: (39, 0) :: (40, 0) :: (41, 0) :: (42, 0) :: (43, 0) :: (44, 1) :: (45, 0) :: (46, 0) :: []) (by kernel_rfl) (cls (Below.refl _ W).drew) ?_
        have D0 : Hid (Below W.heap.size W W.drew) := Lib.hid (Below.refl _ W).drew
        repeat (refine mix0 rfl (fun K hK => ?_); go_simp; refine hK _ ?_; clear hK K)
        refine mix1 rfl (fun K hK => ?_)
        go_simp
        refine hK _ _ (cls D0.out) ?_
        clear hK K
        repeat (refine mix0 rfl (fun K hK => ?_); go_simp; refine hK _ ?_; clear hK K)
        refine mixEnd ?_
        go_wp2_with fail
        go_meet
        case rel => exact ⟨by rw [show PB = true from HPB.out.symm.trans (by rw [hL]; simp; try omega)]; try rfl, D0⟩
      by_cases s2 : 6144 < x.s
      · refine wp_region_mix (by kernel_rfl) (Cls (Abv W)) ((0, 0) :: (1, 0) :: (2, 0) :: (3, 0) :: (4, 0) :: (5, 0) :: (6, 0) :: (7, 0) :: (8, 0) :: (9, 0) :: (10, 0) :: (11, 0) :: (12, 0) :: (13, 0) :: (14, 0) :: (15, 0) :: (16, 0) :: (17, 0) :: (18, 0) :: (19, 0) :: (20, 0) :: (21, 0) :: (22, 0) :: (23, 0) :: (24, 0) :: (25, 0) :: (26, 0) :: (27, 0) :: (28, 0) :: (29, 0) :: (30, 0) :: (31, 0) :: (32, 0) :: (33, 0) :: (34, 0) :: (35, 0) :: (36, 0) :: (37, 0) :: (38, 0) :: (39, 0) :: (40, 0) :: (41, 0) :: (42, 0) :: (43, 0) :: (44, 1) :: (45, 0) :: (46, 0) :: []) (by kernel_rfl) (cls (Below.refl _ W).drew) ?_
        have D0 : Hid (Below W.heap.size W W.drew) := Lib.hid (Below.refl _ W).drew
        repeat (refine mix0 rfl (fun K hK => ?_); go_simp; refine hK _ ?_; clear hK K)
        refine mix1 rfl (fun K hK => ?_)
        go_simp
        refine hK _ _ (cls D0.out) ?_
        clear hK K
        repeat (refine mix0 rfl (fun K hK => ?_); go_simp; refine hK _ ?_; clear hK K)
        refine mixEnd ?_
        go_wp2_with fail
        go_meet
        case rel => exact ⟨by rw [show PB = true from HPB.out.symm.trans (by rw [hL]; simp; try omega)]; try rfl, D0⟩
      by_cases hnN : (n : Int) = N
      · have hb : ((n : Int) != N) = false := by simp [hnN]
        have hv : (!(true && (decide (0 ≤ x.s) && (decide (x.s ≤ 6144) && decide ((n : Int) = N))))) = false := by simp [hnN]; omega
        clear hnN
        refine wp_region_mix (by kernel_rfl) (Cls (Abv W)) ((0, 0) :: (1, 0) :: (2, 0) :: (3, 0) :: (4, 0) :: (5, 0) :: (6, 0) :: (7, 0) :: (8, 0) :: (9, 0) :: (10, 0) :: (11, 0) :: (12, 0) :: (13, 0) :: (14, 0) :: (15, 0) :: (16, 0) :: (17, 0) :: (18, 0) :: (19, 0) :: (20, 0) :: (21, 0) :: (22, 0) :: (23, 0) :: (24, 0) :: (25, 0) :: (26, 0) :: (27, 0) :: (28, 0) :: (29, 0) :: (30, 0) :: (31, 0) :: (32, 0) :: (33, 0) :: (34, 0) :: (35, 0) :: (36, 0) :: (37, 0) :: (38, 0) :: (39, 0) :: (40, 0) :: (41, 0) :: (42, 0) :: (43, 0) :: (44, 1) :: (45, 0) :: (46, 0) :: []) (by kernel_rfl) (cls (Below.refl _ W).drew) ?_
        have D0 : Hid (Below W.heap.size W W.drew) := Lib.hid (Below.refl _ W).drew
        repeat (refine mix0 rfl (fun K hK => ?_); go_simp; refine hK _ ?_; clear hK K)
        refine mix1 rfl (fun K hK => ?_)
        go_simp
        refine (XNeed_any _ Hws.out _).mono ?_
        rw [HN.out]
        rintro e w2 ⟨rfl, rfl⟩
        refine ⟨_, rfl, hK _ _ (cls D0.out) ?_⟩
        clear hK K
        repeat (refine mix0 rfl (fun K hK => ?_); go_simp; refine hK _ ?_; clear hK K)
        refine mixEnd ?_
        go_wp2_with fail
        go_meet
        case rel => exact ⟨by rw [show PB = false from HPB.out.symm.trans (by rw [hL]; exact hv)]; try rfl, D0⟩
      · have hb : ((n : Int) != N) = true := by simp [hnN]
        have hv : (!(true && (decide (0 ≤ x.s) && (decide (x.s ≤ 6144) && decide ((n : Int) = N))))) = true := by simp [hnN]
        clear hnN
        refine wp_region_mix (by kernel_rfl) (Cls (Abv W)) ((0, 0) :: (1, 0) :: (2, 0) :: (3, 0) :: (4, 0) :: (5, 0) :: (6, 0) :: (7, 0) :: (8, 0) :: (9, 0) :: (10, 0) :: (11, 0) :: (12, 0) :: (13, 0) :: (14, 0) :: (15, 0) :: (16, 0) :: (17, 0) :: (18, 0) :: (19, 0) :: (20, 0) :: (21, 0) :: (22, 0) :: (23, 0) :: (24, 0) :: (25, 0) :: (26, 0) :: (27, 0) :: (28, 0) :: (29, 0) :: (30, 0) :: (31, 0) :: (32, 0) :: (33, 0) :: (34, 0) :: (35, 0) :: (36, 0) :: (37, 0) :: (38, 0) :: (39, 0) :: (40, 0) :: (41, 0) :: (42, 0) :: (43, 0) :: (44, 1) :: (45, 0) :: (46, 0) :: []) (by kernel_rfl) (cls (Below.refl _ W).drew) ?_
        have D0 : Hid (Below W.heap.size W W.drew) := Lib.hid (Below.refl _ W).drew
        repeat (refine mix0 rfl (fun K hK => ?_); go_simp; refine hK _ ?_; clear hK K)
        refine mix1 rfl (fun K hK => ?_)
        go_simp
        refine (XNeed_any _ Hws.out _).mono ?_
        rw [HN.out]
        rintro e w2 ⟨rfl, rfl⟩
        refine ⟨_, rfl, hK _ _ (cls D0.out) ?_⟩
        clear hK K
        repeat (refine mix0 rfl (fun K hK => ?_); go_simp; refine hK _ ?_; clear hK K)
        refine mixEnd ?_
        go_wp2_with fail
        go_meet
        case rel => exact ⟨by rw [show PB = true from HPB.out.symm.trans (by rw [hL]; exact hv)]; try rfl, D0⟩
    have b1 : (x.k != 1) = true := by simp [k1]
    have b2 : (x.k != 2) = true := by simp [k2]
    have hL : linkB x.k x.l = false := by rw [linkB, if_neg k1, if_neg k2]
    clear k1 k2
    refine wp_region_mix (by kernel_rfl) (Cls (Abv W)) ((0, 0) :: (1, 0) :: (2, 0) :: (3, 0) :: (4, 0) :: (5, 0) :: (6, 0) :: (7, 0) :: (8, 0) :: (9, 0) :: (10, 0) :: (11, 0) :: (12, 0) :: (13, 0) :: (14, 0) :: (15, 0) :: (16, 0) :: (17, 0) :: (18, 0) :: (19, 0) :: (20, 0) :: (21, 0) :: (22, 0) :: (23, 0) :: (24, 0) :: (25, 0) :: (26, 0) :: (27, 0) :: (28, 0) :: (29, 0) :: (30, 0) :: (31, 0) :: (32, 0) :: (33, 0) :: (34, 0) :: (35, 0) :: (36, 0) :: (37, 0) :: (38, 0) :: (39, 0) :: (40, 0) :: (41, 0) :: (42, 0) :: (43, 0) :: (44, 1) :: (45, 0) :: (46, 0) :: []) (by kernel_rfl) (cls (Below.refl _ W).drew) ?_
    have D0 : Hid (Below W.heap.size W W.drew) := Lib.hid (Below.refl _ W).drew
    repeat (refine mix0 rfl (fun K hK => ?_); go_simp; refine hK _ ?_; clear hK K)
    refine mix1 rfl (fun K hK => ?_)
    go_simp
    refine hK _ _ (cls D0.out) ?_
    clear hK K
    repeat (refine mix0 rfl (fun K hK => ?_); go_simp; refine hK _ ?_; clear hK K)
    refine mixEnd ?_
    go_wp2_with fail
    go_meet
    case rel => exact ⟨by rw [show PB = true from HPB.out.symm.trans (by rw [hL]; simp)]; try rfl, D0⟩
  case rest =>
  obtain ⟨rfl, HB1⟩ := hcut
  have BC : Hid (Below w.heap.size w wc) := Lib.hid (bnext BW.out HB1.out)
  clear q0 q1 q2 q3
  cases PB
  case true =>
    go_wp2
    go_ret
    exact ⟨by rw [← HRR.out]; rfl, BC.out⟩
  have HI1 := Lib.hid (HI.out.below HB1.out)
  have Hd1 := Lib.hid (Hd.out.below HB1.out)
  go_wp2_with fail
  go_loopw [3] (fun i wr => ∃ j q : Nat, j ≤ n ∧ i = .int .i64 j ∧ Hid (anyI (badQ x.d) j = false) ∧ Hid (wr = wc.drewN q)) (fun i _ => n - (intOf i).toNat)
  case atStart => exact ⟨0, 0, Nat.zero_le _, rfl, Lib.hid rfl, Lib.hid rfl⟩
  case round =>
    obtain ⟨j, q, hj, rfl, HQj, Hwr⟩ := hrel
    have hwr := Hwr.out
    subst hwr
    have hlt := HI1.out.lt
    have c3 : wc.cell? ⟨p, 3, none⟩ = some (.slice A n c) := HI1.out.c3
    by_cases hlt2 : j < n
    · have hltI : (j : Int) < (n : Int) := by omega
      obtain ⟨y, hy⟩ : ∃ y, x.d[j]? = some y := ⟨_, List.getElem?_eq_getElem (by rw [Hlen.out]; exact hlt2)⟩
      obtain ⟨g, off, rfl, d0⟩ := Hd1.out.num hy
      have Hnth : Hid (∀ (k : Nat) (z : Int), x.d[k]? = some z → wc.cell? ⟨g, off + k, none⟩ = some (.int .i64 z)) := Lib.hid (fun k z hz => Hd1.out.nth hz)
      have HbadT : Hid (badQ x.d j = true → (if Q then (1 : Int) else 0) = 1) := Lib.hid (fun e => by rw [show Q = true from HA.out.symm.trans (anyI_yes e hlt2)]; rfl)
      have Hbad : Hid (badQ x.d j = (decide (y < 0) || decide (65536 ≤ y) || (x.d.take j).contains y)) := Lib.hid (by rw [badQ, hy])
      have Hy := Lib.hid hy
      clear hy
      by_cases y1 : y < 0
      · have hR := HbadT.out (by rw [Hbad.out]; simp [y1])
        have HR := Lib.hid hR
        clear hR
        have BE := Lib.hid (bnext BC.out (below_drewN wc q))
        go_wp2
        go_ret
        exact ⟨ret_int (HRR.out.symm.trans HR.out).symm, BE.out⟩
      by_cases y2 : 65535 < y
      · have hR := HbadT.out (by rw [Hbad.out]; simp; omega)
        have HR := Lib.hid hR
        clear hR
        have BE := Lib.hid (bnext BC.out (below_drewN wc q))
        go_wp2
        go_ret
        exact ⟨ret_int (HRR.out.symm.trans HR.out).symm, BE.out⟩
      go_wp2_with fail
      go_loopw [4] (fun i wr => ∃ k q : Nat, k ≤ j ∧ i = .int .i64 k ∧ Hid ((x.d.take k).contains y = false) ∧ Hid (wr = wc.drewN q)) (fun i _ => j - (intOf i).toNat)
      case atStart => exact ⟨0, q, Nat.zero_le _, rfl, Lib.hid rfl, Lib.hid rfl⟩
      case round =>
        obtain ⟨k, q', hk, rfl, HQk, Hwr2⟩ := hrel
        have hwr := Hwr2.out
        subst hwr
        by_cases hlt3 : k < j
        · have hltK : (k : Int) < (j : Int) := by omega
          have hltK2 : (k : Int) < (n : Int) := by omega
          obtain ⟨z, hz⟩ : ∃ z, x.d[k]? = some z := ⟨_, List.getElem?_eq_getElem (by rw [Hlen.out]; omega)⟩
          have d1 := Hnth.out k z hz
          have d2 := Hnth.out j y Hy.out
          have Hz := Lib.hid hz
          clear hz
          by_cases hzy : z = y
          · have hR := HbadT.out (by
              rw [Hbad.out]
              have : (x.d.take j).contains y = true := by
                rw [List.contains_iff_mem, ← hzy]
                refine List.mem_of_getElem? (i := k) ?_
                rw [List.getElem?_take_of_lt hlt3]
                exact Hz.out
              rw [this]; simp)
            have HR := Lib.hid hR
            clear hR
            have hb : (z == y) = true := by simp [hzy]
            clear hzy
            go_wp2_with fail
            go_quiet (fail)
            have BE : Hid (∀ m, Below w.heap.size w ((wc.drewN q').drewN m)) := Lib.hid (fun m => bnext (bnext BC.out (below_drewN wc q')) (below_drewN _ m))
            go_wp2
            go_ret
            exact ⟨ret_int (HRR.out.symm.trans HR.out).symm, BE.out _⟩
          · have hb : (z == y) = false := by simp [hzy]
            have Hnx : Hid ((x.d.take (k + 1)).contains y = false) := Lib.hid (by
              obtain ⟨hk', he⟩ := List.getElem?_eq_some_iff.1 Hz.out
              rw [List.take_succ_eq_append_getElem hk', he]
              have h0 := HQk.out
              simp only [List.contains_eq_mem, List.mem_append, List.mem_singleton, decide_eq_false_iff_not] at h0 ⊢
              rintro (h | h)
              · exact h0 h
              · exact hzy h.symm)
            clear hzy
            go_wp2_with fail
            go_quiet (fail)
            go_wp2
            go_roundw
            case rel => exact ⟨k + 1, _, by omega, by go_num, Hnx, Lib.hid rfl⟩
            case measure => simp [intOf]; omega
        · have hkj : k = j := by omega
          have hltK : ¬ (k : Int) < (j : Int) := by omega
          have Hnj : Hid (anyI (badQ x.d) (j + 1) = false) := Lib.hid (by
            rw [anyI_next, HQj.out, Hbad.out, ← hkj, HQk.out]
            simp; omega)
          clear hkj
          go_wp2
          go_roundw
          case rel => exact ⟨j + 1, _, by omega, by go_num, Hnj, Lib.hid rfl⟩
          case measure => simp [intOf]; omega
    · have hjn : j = n := by omega
      have hltI : ¬ (j : Int) < (n : Int) := by omega
      have hR : (if Q then (1 : Int) else 0) = 0 := by rw [show Q = false from HA.out.symm.trans (by rw [← hjn]; exact HQj.out)]; rfl
      have HR := Lib.hid hR
      clear hR hjn
      have BE := Lib.hid (bnext BC.out (below_drewN wc q))
      go_wp2
      go_ret
      exact ⟨ret_int (HRR.out.symm.trans HR.out).symm, BE.out⟩
end Go.Proofs.Ytdlbibhekoobjaa
