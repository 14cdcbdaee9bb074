/- The journals lie one behind the other, and the zones, and nothing between; less than four sectors are left behind the zones, or each has as many as it may: LayoutFills. -/
import Derived.Test.YtnddfekgbabmdaaRows
import Derived.Test.YtnddfekgbabmdaaAw13

namespace Go.Proofs.Ytnddfekgbabmdaa.layoutFills
open Go.RowKit Go.ChangeShapes Go.WideShapes Go.ChangeAt
open Go.ChangeMaps (open_string shut_string)

theorem tmod_bd (a : Int) (m : Nat) (hm : 0 < m) : -(m : Int) < a.tmod m ∧ a.tmod m < m := by
  have h := Int.natAbs_tmod a m
  have h2 : (a.tmod m).natAbs < m := by rw [h]; exact Nat.mod_lt _ (by simpa using hm)
  omega
set_option maxRecDepth 100000 in
set_option maxHeartbeats 4000000 in
theorem walk (a0 a1 : Int) (w : World) (_ : (Lit.int .i64 a0).wf = true) (_ : (Lit.int .i64 a1).wf = true) :
    Calls Try.prog 6 #[.int .i64 a0, .int .i64 a1] w fun e w' => e = .returned (.bool true) ∧ Below w.heap.size w w' := by
  obtain ⟨r0, Hr0⟩ : ∃ r, Hid (a0.tmod 20001 = r) := ⟨_, Lib.hid rfl⟩
  have hb0 : -20001 < r0 ∧ r0 < 20001 := by have := tmod_bd a0 20001 (by omega); rw [show ((20001 : Nat) : Int) = 20001 from rfl, Hr0.out] at this; exact this
  obtain ⟨b00, b01⟩ := hb0
  have hr0 := Hr0.out
  have BB0 : Hid (Below w.heap.size w w) := Lib.hid (Below.refl _ _)
  go_enter Try.func6, Try.ntmps6
  go_wp2_with fail
  refine (awk13_any _).mono ?_
  rintro e x1 ⟨rfl, hb⟩
  have BB1 : Hid (Below w.heap.size w x1) := Lib.hid (bnext BB0.out hb)
  clear  hb
  go_upto_if 16 with fail
  go_cut [6] (fun s wx => ∃ v : Nat, v < 20001 ∧ s = .int .i64 v ∧ wx = x1)
  case first =>
    by_cases hneg : r0 < 0
    · go_wp2_with fail
      go_meet
      case rel => exact ⟨(-r0).toNat, by omega, by go_num, rfl⟩
    · go_wp2_with fail
      go_meet
      case rel => exact ⟨r0.toNat, by omega, by go_num, rfl⟩
  case rest =>
  obtain ⟨n, hn, rfl, rfl⟩ := hcut
  clear hr0 Hr0 b00 b01
  obtain ⟨A, HA⟩ : ∃ x, Hid (layN (n : Int) a1 = x) := ⟨_, Lib.hid rfl⟩
  obtain ⟨E, HE⟩ : ∃ x, Hid (layE (n : Int) a1 = x) := ⟨_, Lib.hid rfl⟩
  go_wp2_with fail
  refine (LNew_any _ _ _).mono ?_
  rw [HA.out, HE.out]
  rintro e x2 ⟨rfl, hb⟩
  have BB2 : Hid (Below w.heap.size w x2) := Lib.hid (bnext BB1.out hb)
  clear  hb
  obtain ⟨qA, HqA⟩ : ∃ q, Hid (x2.heap.size = q) := ⟨_, Lib.hid rfl⟩
  obtain ⟨WA, HWA⟩ : ∃ W, Hid (x2.alloc (.cells #[.int .i64 (A.s), .int .i64 (A.n), .int .i64 (A.f), .int .i64 (A.z)] 24) = W) := ⟨_, Lib.hid rfl⟩
  have hb : Below x2.heap.size x2 WA := by rw [← HWA.out]; exact balloc (Below.refl _ _) _
  have HA3 : Hid (LayAt WA qA A) := Lib.hid (by rw [← HWA.out, ← HqA.out]; exact ⟨by go_simp, by go_simp, by go_simp, by go_simp⟩)
  have BB3 : Hid (Below w.heap.size w WA) := Lib.hid (bnext BB2.out hb)
  clear hb
  have hWA := HWA.out
  have hqA := HqA.out
  by_cases hE : E = 0
  case neg =>
    have hE2 : (E != 0) = true := by simp [hE]
    clear hE
    go_wp2
    go_ret
    exact ⟨rfl, BB3.out⟩
  case pos =>
  subst hE
  have hk : layOk A = true := by rw [← HA.out]; exact layOk_new HE.out
  have hs : A.s = n := by rw [← HA.out, layN_ok HE.out]
  have hok := LayOk.of hk
  obtain ⟨z0, z1, z2⟩ := hok.z3
  obtain ⟨f0, f1⟩ := hok.fb
  have n1 := hok.n1
  have n8 := hok.n8
  have Hf := Lib.hid hok.f
  have Hz := Lib.hid hok.z
  have Hs := Lib.hid hs
  have Hk := Lib.hid hk
  rw [hs] at z2
  clear hk hs hok
  obtain ⟨N, HN⟩ : ∃ N : Nat, Hid (A.n = (N : Int)) := ⟨A.n.toNat, Lib.hid (by omega)⟩
  have hnN : A.n = (N : Int) := HN.out
  clear hnN
  have ltA := HA3.out.lt
  obtain ⟨cA0, cA1, cA2, cA3⟩ := HA3.out
  go_wp2_with fail
  clear hWA hqA ltA cA0 cA1 cA2 cA3
  go_loopw [9, 10] (fun a i wr => ∃ k : Nat, k ≤ N ∧ a = .int .i64 (2 + 40 * (k : Int)) ∧ i = .int .i64 k ∧ Hid (Below WA.heap.size WA wr)) (fun _ i _ => N - (intOf i).toNat)
  case atStart => exact ⟨0, Nat.zero_le _, rfl, rfl, Lib.hid (Below.refl _ _)⟩
  case round =>
    obtain ⟨k, hkN, rfl, rfl, Hbr⟩ := hrel
    have HR := Lib.hid (HA3.out.below Hbr.out)
    have lt0 := HR.out.lt
    obtain ⟨c0, c1, c2, c3⟩ := HR.out
    by_cases hlt : k < N
    · have hltI : (k : Int) < A.n := by have := HN.out; omega
      have hk8 : (k : Int) < 8 := by omega
      have hj : layJ A k = 2 + 40 * (k : Int) := if_pos ⟨Hk.out, by omega, by rw [HN.out]; omega⟩
      have k1 : IntKind.i64.wrap (2 + 40 * (k : Int) + 40) = 2 + 40 * (k : Int) + 40 := IntWalk.i64_in _ (by omega)
      go_wp2_with fail
      refine (Journal_any A _ _).mono ?_
      rw [hj]
      rintro e y1 ⟨rfl, hb⟩
      have B1 := Lib.hid (bnext Hbr.out hb)
      clear hb hj c0 c1 c2 c3 lt0
      go_wp2
      go_roundw
      case rel => exact ⟨k + 1, by omega, by go_num, by go_num, B1⟩
      case measure => simp [intOf]; omega
    · obtain rfl : k = N := by omega
      have hge : A.n ≤ (k : Int) := by have := HN.out; omega
      have hk8 : (k : Int) ≤ 8 := by have := HN.out; omega
      obtain ⟨at0, Hat0⟩ : ∃ x, Hid (2 + 40 * (k : Int) = x) := ⟨_, Lib.hid rfl⟩
      have hfa : at0 = A.f := by rw [← Hat0.out, Hf.out, HN.out]
      rw [Hat0.out]
      subst hfa
      go_wp2_with fail
      clear c0 c1 c2 c3 lt0
      go_loopw [9, 11] (fun a i wr2 => ∃ z : Nat, z ≤ 4 ∧ a = .int .i64 (A.f + z * A.z) ∧ i = .int .i64 z ∧ Hid (Below WA.heap.size WA wr2)) (fun _ i _ => 4 - (intOf i).toNat)
      case atStart => exact ⟨0, by omega, by go_num, rfl, Hbr⟩
      case round =>
        obtain ⟨z, hz4, rfl, rfl, Hb2⟩ := hrel
        have HR2 := Lib.hid (HA3.out.below Hb2.out)
        have lt0 := HR2.out.lt
        obtain ⟨c0, c1, c2, c3⟩ := HR2.out
        by_cases hlt2 : z < 4
        · have hltI : (z : Int) < 4 := by omega
          have hp0 := layP_ok Hk.out hlt2 0
          have hp1 := layP_ok Hk.out hlt2 1
          obtain ⟨m0, m1⟩ := mul_bds (LayOk.of Hk.out) hlt2
          have hnx : A.f + ((z + 1 : Nat) : Int) * A.z = A.f + z * A.z + A.z := by rw [show ((z + 1 : Nat) : Int) = (z : Int) + 1 by omega, Int.add_mul]; omega
          have Hnx := Lib.hid hnx
          obtain ⟨m, Hm⟩ : ∃ m, Hid ((z : Int) * A.z = m) := ⟨_, Lib.hid rfl⟩
          rw [Hm.out] at hp0 hp1 m0 m1 ⊢
          rw [Int.add_zero] at hp0
          have k1 : IntKind.i64.wrap (A.f + m + 1) = A.f + m + 1 := IntWalk.i64_in _ (by omega)
          have k2 : IntKind.i64.wrap (A.f + m + A.z) = A.f + m + A.z := IntWalk.i64_in _ (by omega)
          clear hnx
          go_wp2_with fail
          refine (Begin_any A _ _).mono ?_
          rw [hp0]
          rintro e y1 ⟨rfl, hb⟩
          have B1 := Lib.hid (bnext Hb2.out hb)
          clear hb hp0 c0 c1 c2 c3 lt0
          have HR3 := Lib.hid (HA3.out.below B1.out)
          have lt0 := HR3.out.lt
          obtain ⟨c0, c1, c2, c3⟩ := HR3.out
          go_wp2_with fail
          refine (Root_any A _ _).mono ?_
          rw [hp1]
          rintro e y2 ⟨rfl, hb⟩
          have B2 := Lib.hid (bnext B1.out hb)
          clear hb hp1 c0 c1 c2 c3 lt0
          have HR4 := Lib.hid (HA3.out.below B2.out)
          have lt0 := HR4.out.lt
          obtain ⟨c0, c1, c2, c3⟩ := HR4.out
          go_wp2
          go_roundw
          case rel => exact ⟨z + 1, by omega, by rw [Hnx.out, Hm.out], by go_num, B2⟩
          case measure => simp [intOf]; omega
        · obtain rfl : z = 4 := by omega
          clear c0 c1 c2 c3 lt0
          obtain ⟨AT, HAT⟩ : ∃ x, Hid (A.f + ((4 : Nat) : Int) * A.z = x) := ⟨_, Lib.hid rfl⟩
          have hAT : A.f + 4 * A.z = AT := by rw [← HAT.out]; rfl
          rw [HAT.out]
          have t1 : AT ≤ (n : Int) := by omega
          have t2 : (n : Int) - AT < 4 ∨ A.z = 4000 := by have := Hz.out; have := Hf.out; have := Hs.out; omega
          have BB10 : Hid (Below w.heap.size w wr) := Lib.hid (bnext BB3.out Hb2.out)
          have HR10 := HR2
          have hj : layJ A A.n = -1 := if_neg (by omega)
          have hp : layP A 4 0 = -1 := if_neg (by omega)
          have hr : layR A = 4 * (A.z - 2) := if_pos Hk.out
          obtain ⟨Q, HQ⟩ : ∃ x, Hid (4 * A.z - 8 = x) := ⟨_, Lib.hid rfl⟩
          have hr2 : layR A = Q := by rw [hr, ← HQ.out]; omega
          have HJ := Lib.hid hj
          have HP := Lib.hid hp
          have HRm := Lib.hid hr2
          have w1 : IntKind.i64.wrap ((n : Int) - AT) = (n : Int) - AT := IntWalk.i64_in _ (by omega)
          have w2 : IntKind.i64.wrap (4 * A.z) = 4 * A.z := IntWalk.i64_in _ (by omega)
          have w3 : IntKind.i64.wrap (4 * A.z - 8) = 4 * A.z - 8 := IntWalk.i64_in _ (by omega)
          have w4 : IntKind.i64.wrap Q = Q := IntWalk.i64_in _ (by have := HQ.out; omega)
          have hq8 := HQ.out
          clear hj hp hr hr2 hAT
          rcases t2 with t2 | t2
          · have ltR := HR10.out.lt
            obtain ⟨cR0, cR1, cR2, cR3⟩ := HR10.out
            have mR0 : ∀ y : In (Abv wr), y.u.cell? ⟨qA, 0, none⟩ = some (.int .i64 A.s) := fun y => (HR10.out.below y.is).c0
            have mR1 : ∀ y : In (Abv wr), y.u.cell? ⟨qA, 1, none⟩ = some (.int .i64 A.n) := fun y => (HR10.out.below y.is).c1
            have mR2 : ∀ y : In (Abv wr), y.u.cell? ⟨qA, 2, none⟩ = some (.int .i64 A.f) := fun y => (HR10.out.below y.is).c2
            have mR3 : ∀ y : In (Abv wr), y.u.cell? ⟨qA, 3, none⟩ = some (.int .i64 A.z) := fun y => (HR10.out.below y.is).c3
            go_wp2_with fail
            clear ltR cR0 cR1 cR2 cR3 
            refine wp_region_mix (by kernel_rfl) (Cls (Abv wr)) ((0, 0) :: (1, 0) :: (2, 0) :: (3, 0) :: (4, 0) :: (5, 0) :: (6, 0) :: (7, 0) :: (8, 0) :: (9, 0) :: (10, 0) :: (11, 0) :: (12, 0) :: (13, 0) :: (14, 0) :: (15, 0) :: (16, 0) :: (17, 0) :: (18, 0) :: (20, 0) :: (21, 0) :: (22, 0) :: (23, 0) :: (19, 1) :: (24, 0) :: (25, 0) :: (26, 0) :: (27, 0) :: (28, 0) :: (29, 0) :: (30, 1) :: (31, 0) :: (32, 0) :: (33, 0) :: (34, 0) :: (35, 1) :: (36, 0) :: (37, 0) :: (38, 0) :: []) (by kernel_rfl) (cls (Below.refl _ wr).drew) ?_
            have hdr : Hid (Below wr.heap.size wr wr.drew) := Lib.hid (Below.refl _ wr).drew
            repeat (refine mix0 rfl (fun K hK => ?_); go_simp; refine hK _ ?_; clear hK K)
            refine mix1 rfl (fun K hK => ?_)
            go_simp
            refine (Room_any A _).mono ?_
            rw [HRm.out]
            rintro e x11 ⟨rfl, hb⟩
            have D11 : Hid (Below wr.heap.size wr x11) := Lib.hid (bnext hdr.out hb)
            clear hb
            refine ⟨_, rfl, hK _ _ (cls D11.out) ?_⟩
            clear hK K
            repeat (refine mix0 rfl (fun K hK => ?_); go_simp; refine hK _ ?_; clear hK K)
            refine mix1 rfl (fun K hK => ?_)
            go_simp
            refine (Journal_any A _ _).mono ?_
            rw [HJ.out]
            rintro e x12 ⟨rfl, hb⟩
            have D12 : Hid (Below wr.heap.size wr x12) := Lib.hid (bnext D11.out hb)
            clear hb
            refine ⟨_, rfl, hK _ _ (cls D12.out) ?_⟩
            clear hK K
            repeat (refine mix0 rfl (fun K hK => ?_); go_simp; refine hK _ ?_; clear hK K)
            refine mix1 rfl (fun K hK => ?_)
            go_simp
            refine (Begin_any A _ _).mono ?_
            rw [HP.out]
            rintro e x13 ⟨rfl, hb⟩
            have D13 : Hid (Below wr.heap.size wr x13) := Lib.hid (bnext D12.out hb)
            clear hb
            refine ⟨_, rfl, hK _ _ (cls D13.out) ?_⟩
            clear hK K
            repeat (refine mix0 rfl (fun K hK => ?_); go_simp; refine hK _ ?_; clear hK K)
            refine mixEnd ?_
            clear mR0 mR1 mR2 mR3
            have BB13 : Hid (Below w.heap.size w x13) := Lib.hid (bnext BB10.out D13.out)
            have HR13 := Lib.hid (HR10.out.below D13.out)
            go_wp2
            go_ret
            exact ⟨rfl, BB13.out⟩
          · by_cases t3 : (n : Int) - AT < 4
            case pos =>
              clear t2
              have ltR := HR10.out.lt
              obtain ⟨cR0, cR1, cR2, cR3⟩ := HR10.out
              have mR0 : ∀ y : In (Abv wr), y.u.cell? ⟨qA, 0, none⟩ = some (.int .i64 A.s) := fun y => (HR10.out.below y.is).c0
              have mR1 : ∀ y : In (Abv wr), y.u.cell? ⟨qA, 1, none⟩ = some (.int .i64 A.n) := fun y => (HR10.out.below y.is).c1
              have mR2 : ∀ y : In (Abv wr), y.u.cell? ⟨qA, 2, none⟩ = some (.int .i64 A.f) := fun y => (HR10.out.below y.is).c2
              have mR3 : ∀ y : In (Abv wr), y.u.cell? ⟨qA, 3, none⟩ = some (.int .i64 A.z) := fun y => (HR10.out.below y.is).c3
              go_wp2_with fail
              clear ltR cR0 cR1 cR2 cR3 
              refine wp_region_mix (by kernel_rfl) (Cls (Abv wr)) ((0, 0) :: (1, 0) :: (2, 0) :: (3, 0) :: (4, 0) :: (5, 0) :: (6, 0) :: (7, 0) :: (8, 0) :: (9, 0) :: (10, 0) :: (11, 0) :: (12, 0) :: (13, 0) :: (14, 0) :: (15, 0) :: (16, 0) :: (17, 0) :: (18, 0) :: (20, 0) :: (21, 0) :: (22, 0) :: (23, 0) :: (19, 1) :: (24, 0) :: (25, 0) :: (26, 0) :: (27, 0) :: (28, 0) :: (29, 0) :: (30, 1) :: (31, 0) :: (32, 0) :: (33, 0) :: (34, 0) :: (35, 1) :: (36, 0) :: (37, 0) :: (38, 0) :: []) (by kernel_rfl) (cls (Below.refl _ wr).drew) ?_
              have hdr : Hid (Below wr.heap.size wr wr.drew) := Lib.hid (Below.refl _ wr).drew
              repeat (refine mix0 rfl (fun K hK => ?_); go_simp; refine hK _ ?_; clear hK K)
              refine mix1 rfl (fun K hK => ?_)
              go_simp
              refine (Room_any A _).mono ?_
              rw [HRm.out]
              rintro e x11 ⟨rfl, hb⟩
              have D11 : Hid (Below wr.heap.size wr x11) := Lib.hid (bnext hdr.out hb)
              clear hb
              refine ⟨_, rfl, hK _ _ (cls D11.out) ?_⟩
              clear hK K
              repeat (refine mix0 rfl (fun K hK => ?_); go_simp; refine hK _ ?_; clear hK K)
              refine mix1 rfl (fun K hK => ?_)
              go_simp
              refine (Journal_any A _ _).mono ?_
              rw [HJ.out]
              rintro e x12 ⟨rfl, hb⟩
              have D12 : Hid (Below wr.heap.size wr x12) := Lib.hid (bnext D11.out hb)
              clear hb
              refine ⟨_, rfl, hK _ _ (cls D12.out) ?_⟩
              clear hK K
              repeat (refine mix0 rfl (fun K hK => ?_); go_simp; refine hK _ ?_; clear hK K)
              refine mix1 rfl (fun K hK => ?_)
              go_simp
              refine (Begin_any A _ _).mono ?_
              rw [HP.out]
              rintro e x13 ⟨rfl, hb⟩
              have D13 : Hid (Below wr.heap.size wr x13) := Lib.hid (bnext D12.out hb)
              clear hb
              refine ⟨_, rfl, hK _ _ (cls D13.out) ?_⟩
              clear hK K
              repeat (refine mix0 rfl (fun K hK => ?_); go_simp; refine hK _ ?_; clear hK K)
              refine mixEnd ?_
              clear mR0 mR1 mR2 mR3
              have BB13 : Hid (Below w.heap.size w x13) := Lib.hid (bnext BB10.out D13.out)
              have HR13 := Lib.hid (HR10.out.below D13.out)
              go_wp2
              go_ret
              exact ⟨rfl, BB13.out⟩
            case neg =>
              have t4 : (4 : Int) ≤ (n : Int) - AT := by omega
              have t5 : (A.z == 4000) = true := by simp [t2]
              clear t3 t2
              have ltR := HR10.out.lt
              obtain ⟨cR0, cR1, cR2, cR3⟩ := HR10.out
              have mR0 : ∀ y : In (Abv wr), y.u.cell? ⟨qA, 0, none⟩ = some (.int .i64 A.s) := fun y => (HR10.out.below y.is).c0
              have mR1 : ∀ y : In (Abv wr), y.u.cell? ⟨qA, 1, none⟩ = some (.int .i64 A.n) := fun y => (HR10.out.below y.is).c1
              have mR2 : ∀ y : In (Abv wr), y.u.cell? ⟨qA, 2, none⟩ = some (.int .i64 A.f) := fun y => (HR10.out.below y.is).c2
              have mR3 : ∀ y : In (Abv wr), y.u.cell? ⟨qA, 3, none⟩ = some (.int .i64 A.z) := fun y => (HR10.out.below y.is).c3
              go_wp2_with fail
              clear ltR cR0 cR1 cR2 cR3 
              refine wp_region_mix (by kernel_rfl) (Cls (Abv wr)) ((0, 0) :: (1, 0) :: (2, 0) :: (3, 0) :: (4, 0) :: (5, 0) :: (6, 0) :: (7, 0) :: (8, 0) :: (9, 0) :: (10, 0) :: (11, 0) :: (12, 0) :: (13, 0) :: (14, 0) :: (15, 0) :: (16, 0) :: (17, 0) :: (18, 0) :: (20, 0) :: (21, 0) :: (22, 0) :: (23, 0) :: (19, 1) :: (24, 0) :: (25, 0) :: (26, 0) :: (27, 0) :: (28, 0) :: (29, 0) :: (30, 1) :: (31, 0) :: (32, 0) :: (33, 0) :: (34, 0) :: (35, 1) :: (36, 0) :: (37, 0) :: (38, 0) :: []) (by kernel_rfl) (cls (Below.refl _ wr).drew) ?_
              have hdr : Hid (Below wr.heap.size wr wr.drew) := Lib.hid (Below.refl _ wr).drew
              repeat (refine mix0 rfl (fun K hK => ?_); go_simp; refine hK _ ?_; clear hK K)
              refine mix1 rfl (fun K hK => ?_)
              go_simp
              refine (Room_any A _).mono ?_
              rw [HRm.out]
              rintro e x11 ⟨rfl, hb⟩
              have D11 : Hid (Below wr.heap.size wr x11) := Lib.hid (bnext hdr.out hb)
              clear hb
              refine ⟨_, rfl, hK _ _ (cls D11.out) ?_⟩
              clear hK K
              repeat (refine mix0 rfl (fun K hK => ?_); go_simp; refine hK _ ?_; clear hK K)
              refine mix1 rfl (fun K hK => ?_)
              go_simp
              refine (Journal_any A _ _).mono ?_
              rw [HJ.out]
              rintro e x12 ⟨rfl, hb⟩
              have D12 : Hid (Below wr.heap.size wr x12) := Lib.hid (bnext D11.out hb)
              clear hb
              refine ⟨_, rfl, hK _ _ (cls D12.out) ?_⟩
              clear hK K
              repeat (refine mix0 rfl (fun K hK => ?_); go_simp; refine hK _ ?_; clear hK K)
              refine mix1 rfl (fun K hK => ?_)
              go_simp
              refine (Begin_any A _ _).mono ?_
              rw [HP.out]
              rintro e x13 ⟨rfl, hb⟩
              have D13 : Hid (Below wr.heap.size wr x13) := Lib.hid (bnext D12.out hb)
              clear hb
              refine ⟨_, rfl, hK _ _ (cls D13.out) ?_⟩
              clear hK K
              repeat (refine mix0 rfl (fun K hK => ?_); go_simp; refine hK _ ?_; clear hK K)
              refine mixEnd ?_
              clear mR0 mR1 mR2 mR3
              have BB13 : Hid (Below w.heap.size w x13) := Lib.hid (bnext BB10.out D13.out)
              have HR13 := Lib.hid (HR10.out.below D13.out)
              go_wp2
              go_ret
              exact ⟨rfl, BB13.out⟩
theorem own : ownKnob Try.prog.godebug = none := by kernel_rfl
theorem laidOut : laidOutB Try.prog = true := by kernel_rfl
set_option maxRecDepth 100000 in
theorem lifted (os : Os) (started : os.Started) (H : Type) (enc : TypeId × Value → H) :
    ReturnsInHanded {} Try.checked os 6 .any (Rows.layoutFillsSpec.pre6 enc Try.prog Try.f6 Rows.layoutFillsRow.domain false) (Rows.layoutFillsSpec.post enc Try.prog Try.f6 false true false false) := by
  refine returnsInHanded_of_change (C := Try.checked) own started (by kernel_rfl) Try.func6
    (ChangeSpec.witness6 (enc := enc) (C := Try.checked) false ⟨#[], #[.int .i64 0, .int .i64 0], []⟩ 8 (by kernel_rfl) (by kernel_rfl) (by kernel_rfl) (by kernel_rfl)) ?_
  intro W base args ds gs before hval0 hW hcnd _
  have hval : ∀ (j : Nat) t v, Try.f6.params[j]? = some t → args[j]? = some v → Value.okWide Try.prog W .any base t v := hval0
  have hW' := hW
  obtain ⟨p, q, hA0, hV, rfl, hfz, hnd⟩ := hW
  have hA : DataW.TrodAll enc Try.prog W 0 (fun _ => true) true Try.f6.params.toList args.toList ds p := hA0
  rw [Try.params6] at hA hval
  obtain ⟨v0, vs0, d0, ds0, p0, q0, hargs, rfl, rfl, h0, r0⟩ := trodAll_cons hA
  obtain ⟨v1, vs1, d1, ds1, p1, q1, rfl, rfl, rfl, h1, r1⟩ := trodAll_cons r0
  obtain ⟨rfl, rfl, rfl⟩ := trodAll_nil r1
  obtain rfl : args = #[v0, v1] := by cases args; simp_all
  obtain ⟨a0, rfl, rfl, rfl, w0⟩ := open_int Try.underlying3 (hval 0 3 v0 rfl rfl) h0
  obtain ⟨a1, rfl, rfl, rfl, w1⟩ := open_int Try.underlying3 (hval 1 3 v1 rfl rfl) h1
  clear hA0 hval0
  refine (walk a0 a1 W w0 w1).mono fun e W' ⟨he, bel⟩ => ?_
  subst he
  exact ⟨_, rfl, law_post laidOut (by rw [Try.params6]; decide +kernel) rfl Try.underlying4 rfl hW' (fun _ => rfl) bel⟩
theorem over : Rows.layoutFillsRow.holds Try.pinned (OpenSpec.ofChange Rows.layoutFillsSpec) :=
  OpenClaim.holds_of_wide 6 Try.f6 rfl rfl rfl rfl rfl rfl rfl ⟨rfl, rfl, rfl, rfl, rfl⟩ rfl rfl rfl rfl rfl (by kernel_rfl) Try.func6 (by kernel_rfl)
    (of_decide_eq_true (by kernel_rfl)) (by unfold Func.isWrapper; first | (rw [if_pos (by decide +kernel)]; kernel_rfl) | (rw [if_neg (by decide +kernel)]; exact ⟨rfl, rfl⟩))
    (fun os started H enc _ => lifted os started H enc)
theorem proved : Rows.LayoutFillsSaid := over
end Go.Proofs.Ytnddfekgbabmdaa.layoutFills
