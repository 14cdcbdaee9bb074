/- What package layout and the document give, at this translation: in which zone a sector lies, a new zone's map, and what is read. -/
import Derived.Test.YtnddfekgbabmdaaLy13
import Derived.Test.YtnddfekgbabmdaaBits
import Derived.Test.YtnddfekgbabmdaaRef03b
namespace Go.Proofs.Ytnddfekgbabmdaa
open Go.RowKit

/-! ### in which zone a sector lies -/
theorem zoneFrom_hit {l : Lay} {x : Int} {k z : Nat} (h : l.f + z * l.z ≤ x ∧ x < l.f + z * l.z + l.z) : zoneFrom l x (k + 1) z = ((z : Int), x - (l.f + z * l.z)) := by rw [zoneFrom, if_pos h]
theorem zoneFrom_miss {l : Lay} {x : Int} {k z : Nat} (h : ¬ (l.f + z * l.z ≤ x ∧ x < l.f + z * l.z + l.z)) : zoneFrom l x (k + 1) z = zoneFrom l x k (z + 1) := by rw [zoneFrom, if_neg h]
theorem layP_ok {l : Lay} (hk : layOk l = true) {z : Nat} (h : z < 4) (p : Int) : layP l z p = l.f + z * l.z + p := if_pos ⟨hk, by omega, by omega⟩
theorem mul_bds {l : Lay} (hk : LayOk l) {z : Nat} (h : z < 4) : 0 ≤ (z : Int) * l.z ∧ (z : Int) * l.z ≤ 16000 := by
  obtain ⟨z0, z1, z2⟩ := hk.z3
  have m0 : 0 ≤ (z : Int) * l.z := Int.mul_nonneg (by omega) (by omega)
  have m1 : (z : Int) * l.z ≤ 4 * l.z := Int.mul_le_mul_of_nonneg_right (by omega) (by omega)
  omega
set_option maxRecDepth 100000 in
set_option maxHeartbeats 1000000 in
theorem find_any (l : Lay) (x : Int) (_hx : (Lit.int .i64 x).wf = true) (w : World) :
    Calls Try.prog 39 #[l.v, .int .i64 x] w fun e w' => e = .returned (.tuple #[.int .i64 (layZP l x).1, .int .i64 (layZP l x).2]) ∧ Below w.heap.size w w' := by
  by_cases hk : layOk l = true
  · have hr : layZP l x = zoneFrom l x 4 0 := if_pos hk
    obtain ⟨z0, z1, z2⟩ := (LayOk.of hk).z3
    obtain ⟨f0, f1⟩ := (LayOk.of hk).fb
    have Hk := Lib.hid hk
    rw [hr]
    have HK := Lib.hid (LayOk.of hk)
    clear hk hr
    go_enter Try.func39, Try.ntmps39
    go_wp2_with fail
    refine (may_any _ _).mono ?_
    rw [Hk.out]
    rintro e w1 ⟨rfl, hb⟩
    obtain ⟨hl, hb⟩ := layBox _ _ _ hb
    have Hb := Lib.hid hb
    have Hl := Lib.hid hl
    clear hb hl
    go_wp2_with fail
    go_loopw [11] (fun i wr => ∃ z : Nat, z ≤ 4 ∧ i = .int .i64 z ∧ Hid (zoneFrom l x 4 0 = zoneFrom l x (4 - z) z) ∧ Hid (Below w1.heap.size w1 wr)) (fun i _ => 4 - (intOf i).toNat)
    case atStart => exact ⟨0, by omega, rfl, Lib.hid rfl, Lib.hid (Below.refl _ _)⟩
    case round =>
      obtain ⟨z, hz, rfl, Hz, Hbr⟩ := hrel
      by_cases hlt : z < 4
      · have hltI : (z : Int) < 4 := by omega
        have hl := Hl.out.below Hbr.out
        have hlt2 := hl.lt
        obtain ⟨c0, c1, c2, c3⟩ := hl
        go_wp2_with fail
        refine (Begin_any _ _ _).mono ?_
        rw [layP_ok Hk.out hlt, Int.add_zero]
        obtain ⟨b0, b1⟩ := mul_bds HK.out hlt
        obtain ⟨m, Hm⟩ : ∃ m, Hid ((z : Int) * l.z = m) := ⟨_, Lib.hid rfl⟩
        rw [Hm.out] at b0 b1 ⊢
        rintro e w2 ⟨rfl, hb2⟩
        have B2 := Lib.hid (bnext Hbr.out hb2)
        have hl2 := (LayAt.mk c0 c1 c2 c3).below hb2
        have hlt3 := hl2.lt
        clear c0 c1 c2 c3 hb2
        obtain ⟨c0, c1, c2, c3⟩ := hl2
        have k1 : IntKind.i64.wrap (l.f + m + l.z) = l.f + m + l.z := IntWalk.i64_in _ (by omega)
        by_cases hh : l.f + m ≤ x ∧ x < l.f + m + l.z
        · have He := Lib.hid (zoneFrom_hit (l := l) (x := x) (k := 4 - z - 1) (z := z) (by rw [Hm.out]; exact hh))
          obtain ⟨hh1, hh2⟩ := hh
          have k2 : IntKind.i64.wrap (x - (l.f + m)) = x - (l.f + m) := IntWalk.i64_in _ (by omega)
          go_wp2
          go_ret2
          refine ⟨?_, bnext Hb.out B2.out⟩
          rw [Hz.out, show 4 - z = 4 - z - 1 + 1 by omega, He.out, Hm.out]
          rfl
        · have He := Lib.hid (zoneFrom_miss (l := l) (x := x) (k := 4 - z - 1) (z := z) (by rw [Hm.out]; exact hh))
          have Hr : Hid (zoneFrom l x 4 0 = zoneFrom l x (4 - (z + 1)) (z + 1)) := Lib.hid (by rw [Hz.out, show 4 - z = 4 - z - 1 + 1 by omega, He.out]; congr 1)
          by_cases h1 : l.f + m ≤ x
          · have h2 : l.f + m + l.z ≤ x := by omega
            clear hh
            go_wp2
            go_roundw
            case rel => exact ⟨z + 1, by omega, by go_num, Hr, B2⟩
            case measure => simp [intOf]; omega
          · clear hh
            go_wp2
            go_roundw
            case rel => exact ⟨z + 1, by omega, by go_num, Hr, B2⟩
            case measure => simp [intOf]; omega
      · obtain rfl : z = 4 := by omega
        go_wp2
        go_ret2
        refine ⟨?_, bnext Hb.out Hbr.out⟩
        rw [Hz.out]
        rfl
  · have hr : layZP l x = (-1, -1) := if_neg hk
    have Hk : Hid (layOk l = false) := Lib.hid (by simpa using hk)
    rw [hr]
    clear hk hr
    go_enter Try.func39, Try.ntmps39
    go_wp2_with fail
    refine (may_any _ _).mono ?_
    rw [Hk.out]
    rintro e w1 ⟨rfl, hb⟩
    have Hb := Lib.hid (layBox _ _ _ hb).2
    clear hb
    go_wp2
    go_ret2
    exact ⟨rfl, Hb.out⟩
theorem Zone_any (l : Lay) (x : Int) (hx : (Lit.int .i64 x).wf = true) (w : World) :
    Calls Try.prog 20 #[l.v, .int .i64 x] w fun e w' => e = .returned (.int .i64 (layZP l x).1) ∧ Below w.heap.size w w' := by
  go_enter Try.func20, Try.ntmps20
  go_wp2_with fail
  refine (find_any _ _ hx _).mono ?_
  rintro e w1 ⟨rfl, hb⟩
  have Hb := Lib.hid (layBox _ _ _ hb).2
  clear hb
  go_wp2
  go_ret
  exact ⟨rfl, Hb.out⟩
theorem Place_any (l : Lay) (x : Int) (hx : (Lit.int .i64 x).wf = true) (w : World) :
    Calls Try.prog 22 #[l.v, .int .i64 x] w fun e w' => e = .returned (.int .i64 (layZP l x).2) ∧ Below w.heap.size w w' := by
  go_enter Try.func22, Try.ntmps22
  go_wp2_with fail
  refine (find_any _ _ hx _).mono ?_
  rintro e w1 ⟨rfl, hb⟩
  have Hb := Lib.hid (layBox _ _ _ hb).2
  clear hb
  go_wp2
  go_ret
  exact ⟨rfl, Hb.out⟩
theorem zp_from (l : Lay) (x : Int) : ∀ k z : Nat, zoneFrom l x k z = (-1, -1) ∨ ∃ y : Nat, y < z + k ∧ zoneFrom l x k z = ((y : Int), x - (l.f + y * l.z)) ∧ l.f + y * l.z ≤ x ∧ x < l.f + y * l.z + l.z
  | 0, _ => .inl rfl
  | k + 1, z => by
    by_cases h : l.f + z * l.z ≤ x ∧ x < l.f + z * l.z + l.z
    · exact .inr ⟨z, by omega, zoneFrom_hit h, h.1, h.2⟩
    · rw [zoneFrom_miss h]
      rcases zp_from l x k (z + 1) with e | ⟨y, h1, h2⟩
      · exact .inl e
      · exact .inr ⟨y, by omega, h2⟩
theorem zp_cases (l : Lay) (x : Int) : layZP l x = (-1, -1) ∨ ∃ z : Nat, z < 4 ∧ layZP l x = ((z : Int), x - (l.f + z * l.z)) ∧ layOk l = true ∧ l.f + z * l.z ≤ x ∧ x < l.f + z * l.z + l.z := by
  by_cases hk : layOk l = true
  · rw [layZP, if_pos hk]
    rcases zp_from l x 4 0 with e | ⟨y, h1, h2, h3, h4⟩
    · exact .inl e
    · exact .inr ⟨y, by omega, h2, hk, h3, h4⟩
  · exact .inl (if_neg hk)
set_option maxRecDepth 100000 in
set_option maxHeartbeats 1000000 in
theorem XZone_any (l : Lay) (x : Int) (_hx : (Lit.int .i64 x).wf = true) (w : World) :
    Calls Try.prog 21 #[l.v, .int .i64 x] w fun e w' => e = .returned (.int .i64 (layZP l x).1) ∧ Below w.heap.size w w' := by
  obtain ⟨W, HW⟩ : ∃ W, Hid (w.alloc (.cells #[.int .i64 l.s, .int .i64 l.n, .int .i64 l.f, .int .i64 l.z] 24) = W) := ⟨_, Lib.hid rfl⟩
  have Hl : Hid (LayAt W w.heap.size l) := Lib.hid (by rw [← HW.out]; exact ⟨by go_simp, by go_simp, by go_simp, by go_simp⟩)
  have HB : Hid (Below w.heap.size w W) := Lib.hid (by rw [← HW.out]; exact balloc (Below.refl _ w) _)
  have hW := HW.out
  by_cases hk : layOk l = true
  · have hr : layZP l x = zoneFrom l x 4 0 := if_pos hk
    obtain ⟨z0, z1, z2⟩ := (LayOk.of hk).z3
    obtain ⟨f0, f1⟩ := (LayOk.of hk).fb
    have Hk := Lib.hid hk
    rw [hr]
    have HK := Lib.hid (LayOk.of hk)
    clear hk hr
    rw [Lay.v]
    go_enter Try.func21, Try.ntmps21
    go_wp2_with fail
    go_loopw [5] (fun i wr => ∃ z : Nat, z ≤ 4 ∧ i = .int .i64 z ∧ Hid (zoneFrom l x 4 0 = zoneFrom l x (4 - z) z) ∧ Hid (Below W.heap.size W wr)) (fun i _ => 4 - (intOf i).toNat)
    case atStart => exact ⟨0, by omega, rfl, Lib.hid rfl, Lib.hid (Below.refl _ _)⟩
    case round =>
      obtain ⟨z, hz, rfl, Hz, Hbr⟩ := hrel
      by_cases hlt : z < 4
      · have hltI : (z : Int) < 4 := by omega
        have hl := Hl.out.below Hbr.out
        have hlt2 := hl.lt
        obtain ⟨c0, c1, c2, c3⟩ := hl
        go_wp2_with fail
        refine (XBegin_any _ _ _).mono ?_
        rw [layP_ok Hk.out hlt, Int.add_zero]
        obtain ⟨b0, b1⟩ := mul_bds HK.out hlt
        obtain ⟨m, Hm⟩ : ∃ m, Hid ((z : Int) * l.z = m) := ⟨_, Lib.hid rfl⟩
        rw [Hm.out] at b0 b1 ⊢
        rintro e w2 ⟨rfl, hb2⟩
        have B2 := Lib.hid (bnext Hbr.out hb2)
        have hl2 := (LayAt.mk c0 c1 c2 c3).below hb2
        have hlt3 := hl2.lt
        clear c0 c1 c2 c3 hb2
        obtain ⟨c0, c1, c2, c3⟩ := hl2
        have k1 : IntKind.i64.wrap (l.f + m + l.z) = l.f + m + l.z := IntWalk.i64_in _ (by omega)
        have k0 : 0 ≤ l.f + m := by omega
        by_cases hh : l.f + m ≤ x ∧ x < l.f + m + l.z
        · have He := Lib.hid (zoneFrom_hit (l := l) (x := x) (k := 4 - z - 1) (z := z) (by rw [Hm.out]; exact hh))
          obtain ⟨hh1, hh2⟩ := hh
          go_wp2
          go_ret
          refine ⟨ret_int ?_, bnext HB.out B2.out⟩
          rw [Hz.out, show 4 - z = 4 - z - 1 + 1 by omega, He.out]
        · have He := Lib.hid (zoneFrom_miss (l := l) (x := x) (k := 4 - z - 1) (z := z) (by rw [Hm.out]; exact hh))
          have Hr : Hid (zoneFrom l x 4 0 = zoneFrom l x (4 - (z + 1)) (z + 1)) := Lib.hid (by rw [Hz.out, show 4 - z = 4 - z - 1 + 1 by omega, He.out]; congr 1)
          by_cases h1 : l.f + m ≤ x
          · have h2 : l.f + m + l.z ≤ x := by omega
            clear hh
            go_wp2
            go_roundw
            case rel => exact ⟨z + 1, by omega, by go_num, Hr, B2⟩
            case measure => simp [intOf]; omega
          · clear hh
            go_wp2
            go_roundw
            case rel => exact ⟨z + 1, by omega, by go_num, Hr, B2⟩
            case measure => simp [intOf]; omega
      · obtain rfl : z = 4 := by omega
        go_wp2
        go_ret
        refine ⟨ret_int ?_, bnext HB.out Hbr.out⟩
        rw [Hz.out]
        rfl
  · have hr : layZP l x = (-1, -1) := if_neg hk
    have Hk : Hid (∀ z : Nat, layP l z 0 = -1) := Lib.hid (fun z => if_neg (fun h => hk h.1))
    rw [hr]
    clear hk hr
    rw [Lay.v]
    go_enter Try.func21, Try.ntmps21
    go_wp2_with fail
    go_loopw [5] (fun i wr => ∃ z : Nat, z ≤ 4 ∧ i = .int .i64 z ∧ Hid (Below W.heap.size W wr)) (fun i _ => 4 - (intOf i).toNat)
    case atStart => exact ⟨0, by omega, rfl, Lib.hid (Below.refl _ _)⟩
    case round =>
      obtain ⟨z, hz, rfl, Hbr⟩ := hrel
      by_cases hlt : z < 4
      · have hltI : (z : Int) < 4 := by omega
        have hl := Hl.out.below Hbr.out
        have hlt2 := hl.lt
        obtain ⟨c0, c1, c2, c3⟩ := hl
        go_wp2_with fail
        refine (XBegin_any _ _ _).mono ?_
        rw [Hk.out]
        rintro e w2 ⟨rfl, hb2⟩
        have B2 := Lib.hid (bnext Hbr.out hb2)
        clear hb2 c0 c1 c2 c3
        go_wp2
        go_roundw
        case rel => exact ⟨z + 1, by omega, by go_num, B2⟩
        case measure => simp [intOf]; omega
      · obtain rfl : z = 4 := by omega
        go_wp2
        go_ret
        exact ⟨rfl, bnext HB.out Hbr.out⟩
set_option maxRecDepth 100000 in
set_option maxHeartbeats 1000000 in
theorem XPlace_any (l : Lay) (x : Int) (hx : (Lit.int .i64 x).wf = true) (w : World) :
    Calls Try.prog 23 #[l.v, .int .i64 x] w fun e w' => e = .returned (.int .i64 (layZP l x).2) ∧ Below w.heap.size w w' := by
  rcases zp_cases l x with h | ⟨z, hz, h, hk, hx0, hx1⟩
  · have Hr : Hid ((layZP l x).1 = -1 ∧ (layZP l x).2 = -1) := Lib.hid (by rw [h]; exact ⟨rfl, rfl⟩)
    rw [Hr.out.2]
    clear h
    go_enter Try.func23, Try.ntmps23
    go_wp2_with fail
    refine (XZone_any _ _ hx _).mono ?_
    rw [Hr.out.1]
    rintro e w1 ⟨rfl, hb⟩
    obtain ⟨hl, hb⟩ := layBox _ _ _ hb
    have Hb := Lib.hid hb
    clear hb hl
    go_wp2
    go_ret
    exact ⟨rfl, Hb.out⟩
  · have Hr : Hid ((layZP l x).1 = (z : Int) ∧ (layZP l x).2 = x - (l.f + z * l.z)) := Lib.hid (by rw [h]; exact ⟨rfl, rfl⟩)
    rw [Hr.out.2]
    obtain ⟨b0, b1⟩ := mul_bds (LayOk.of hk) hz
    obtain ⟨z0, z1, z2⟩ := (LayOk.of hk).z3
    obtain ⟨f0, f1⟩ := (LayOk.of hk).fb
    have hp := layP_ok hk hz 0
    rw [Int.add_zero] at hp
    obtain ⟨m, Hm⟩ : ∃ m, Hid ((z : Int) * l.z = m) := ⟨_, Lib.hid rfl⟩
    rw [Hm.out] at b0 b1 hx0 hx1 hp ⊢
    have Hp := Lib.hid hp
    have k2 : IntKind.i64.wrap (x - (l.f + m)) = x - (l.f + m) := IntWalk.i64_in _ (by omega)
    clear h hp hk
    go_enter Try.func23, Try.ntmps23
    go_wp2_with fail
    refine (XZone_any _ _ hx _).mono ?_
    rw [Hr.out.1]
    rintro e w1 ⟨rfl, hb⟩
    obtain ⟨hl, hb⟩ := layBox _ _ _ hb
    have Hb := Lib.hid hb
    have hlt := hl.lt
    obtain ⟨c0, c1, c2, c3⟩ := hl
    clear hb
    go_wp2_with fail
    refine (XBegin_any _ _ _).mono ?_
    rw [Hp.out]
    rintro e w2 ⟨rfl, hb2⟩
    have B2 := Lib.hid (bnext Hb.out hb2)
    clear hb2
    go_wp2
    go_ret
    exact ⟨rfl, B2.out⟩
/-! ### a new zone's map -/
def mapM (z : Int) : List UInt8 := Bm.setI (Bm.setI (zeros z) 0 true) 1 true
def layM (l : Lay) : List UInt8 := if layOk l then mapM l.z else []
def mapK (z : Int) : Nat → List UInt8
  | 0 => zeros z
  | k + 1 => Bm.setI (mapK z k) k true
theorem mapK_length (z : Int) : ∀ k, (mapK z k).length = size z
  | 0 => zeros_length z
  | k + 1 => by rw [mapK, Bm.setI_length, mapK_length z k]
set_option maxRecDepth 100000 in
set_option maxHeartbeats 1000000 in
theorem LMap_any (l : Lay) (w : World) :
    Calls Try.prog 24 #[l.v] w fun e w' => e = .returned (.string (str (layM l))) ∧ Below w.heap.size w w' := by
  by_cases hk : layOk l = true
  · have hr : layM l = mapM l.z := if_pos hk
    have Hk := Lib.hid hk
    rw [hr]
    clear hk hr
    go_enter Try.func24, Try.ntmps24
    go_wp2_with fail
    refine (may_any _ _).mono ?_
    rw [Hk.out]
    rintro e w1 ⟨rfl, hb⟩
    obtain ⟨hl, hb⟩ := layBox _ _ _ hb
    have Hb := Lib.hid hb
    have hlt := hl.lt
    obtain ⟨c0, c1, c2, c3⟩ := hl
    clear hb
    go_wp2_with fail
    refine (New_any _ _).mono ?_
    rintro e w2 ⟨rfl, hb2⟩
    have B2 := Lib.hid (bnext Hb.out hb2)
    clear hb2 c0 c1 c2 c3 hlt
    go_wp2_with fail
    go_loopw [3, 11] (fun m i wr => ∃ k : Nat, k ≤ 2 ∧ i = .int .i64 k ∧ m = .string (str (mapK l.z k)) ∧ Hid (Below w.heap.size w wr)) (fun _ i _ => 2 - (intOf i).toNat)
    case atStart => exact ⟨0, by omega, rfl, rfl, B2⟩
    case round =>
      obtain ⟨k, hk, rfl, rfl, Hbr⟩ := hrel
      by_cases hlt : k < 2
      · have hltI : (k : Int) < 2 := by omega
        have hlen := mapK_length l.z k
        have hsz := size_le l.z
        go_wp2_with fail
        refine (Set_any _ (by omega) _ _ _).mono ?_
        rw [show Bm.setI (mapK l.z k) k true = mapK l.z (k + 1) from rfl]
        rintro e w3 ⟨rfl, hb3⟩
        have B3 := Lib.hid (bnext Hbr.out hb3)
        clear hb3
        go_wp2
        go_roundw
        case rel => exact ⟨k + 1, by omega, by go_num, rfl, B3⟩
        case measure => simp [intOf]; omega
      · obtain rfl : k = 2 := by omega
        go_wp2
        go_ret
        exact ⟨rfl, Hbr.out⟩
  · have hr : layM l = [] := if_neg hk
    have Hk : Hid (layOk l = false) := Lib.hid (by simpa using hk)
    rw [hr]
    clear hk hr
    go_enter Try.func24, Try.ntmps24
    go_wp2_with fail
    refine (may_any _ _).mono ?_
    rw [Hk.out]
    rintro e w1 ⟨rfl, hb⟩
    have Hb := Lib.hid (layBox _ _ _ hb).2
    clear hb
    go_wp2
    go_ret
    exact ⟨rfl, Hb.out⟩
set_option maxRecDepth 100000 in
set_option maxHeartbeats 1000000 in
theorem XLMap_any (l : Lay) (w : World) :
    Calls Try.prog 25 #[l.v] w fun e w' => e = .returned (.string (str (layM l))) ∧ Below w.heap.size w w' := by
  by_cases hk : layOk l = true
  · have hr : layM l = mapM l.z := if_pos hk
    have Hk := Lib.hid hk
    rw [hr]
    clear hk hr
    have hz0 := zeros_length l.z
    have hz1 : (Bm.setI (zeros l.z) 0 true).length = size l.z := by rw [Bm.setI_length, hz0]
    have hsz := size_le l.z
    go_enter Try.func25, Try.ntmps25
    go_wp2_with fail
    refine (Is_any _ _).mono ?_
    rw [Hk.out]
    rintro e w1 ⟨rfl, hb⟩
    obtain ⟨hl, hb⟩ := layBox _ _ _ hb
    have Hb := Lib.hid hb
    have hlt := hl.lt
    obtain ⟨c0, c1, c2, c3⟩ := hl
    clear hb
    go_wp2_with fail
    refine (XNew_any _ _).mono ?_
    rintro e w2 ⟨rfl, rfl⟩
    go_wp2_with fail
    refine (XSet_any (zeros l.z) (by omega) 0 (by omega) _ _).mono ?_
    rintro e w2 ⟨rfl, hb2⟩
    have B2 := Lib.hid (bnext Hb.out hb2)
    clear hb2
    go_wp2_with fail
    refine (XSet_any (Bm.setI (zeros l.z) 0 true) (by omega) 1 (by omega) _ _).mono ?_
    rintro e w3 ⟨rfl, hb3⟩
    have B3 := Lib.hid (bnext B2.out hb3)
    clear hb3 c0 c1 c2 c3 hlt
    rw [show Bm.setI (Bm.setI (zeros l.z) 0 true) 1 true = mapM l.z from rfl]
    go_wp2
    go_ret
    exact ⟨rfl, B3.out⟩
  · have hr : layM l = [] := if_neg hk
    have Hk : Hid (layOk l = false) := Lib.hid (by simpa using hk)
    rw [hr]
    clear hk hr
    go_enter Try.func25, Try.ntmps25
    go_wp2_with fail
    refine (Is_any _ _).mono ?_
    rw [Hk.out]
    rintro e w1 ⟨rfl, hb⟩
    have Hb := Lib.hid (layBox _ _ _ hb).2
    clear hb
    go_wp2
    go_ret
    exact ⟨rfl, Hb.out⟩
/-! ### what is read -/
theorem rd_lo (l : List UInt8) : 0 ≤ rdS l ∧ 0 ≤ rdN l ∧ rdS l < 4294967296 ∧ rdN l < 65536 := by
  have h1 := num_takeS (takeL l 4) 4
  have h2 := num_takeS (takeL (takeL l 4) 4) 2
  simp only [rdS, rdN]
  omega
set_option maxRecDepth 100000 in
set_option maxHeartbeats 1000000 in
theorem LRead_any (l : List UInt8) (w : World) :
    Calls Try.prog 13 #[.string (str l)] w fun e w' => e = .returned (.tuple #[(rdL l).v, .int .i64 (rdE l)]) ∧ Below w.heap.size w w' := by
  obtain ⟨m, Hm⟩ : ∃ m, Hid (rdLay l = m) := ⟨_, Lib.hid rfl⟩
  have Hok : Hid (rdOk l = (layOk m && (layB m == l))) := Lib.hid (by rw [rdOk, Hm.out])
  have Hrd : Hid (layN (rdS l) (rdN l) = m) := Lib.hid Hm.out
  obtain ⟨X, HX⟩ : ∃ X, Hid (layE (rdS l) (rdN l) = X) := ⟨_, Lib.hid rfl⟩
  obtain ⟨E, HE⟩ : ∃ E, Hid (layBE m = E) := ⟨_, Lib.hid rfl⟩
  obtain ⟨B, HB⟩ : ∃ B, Hid (layB m = B) := ⟨_, Lib.hid rfl⟩
  obtain ⟨rs, Hrs⟩ : ∃ x, Hid (rdS l = x) := ⟨_, Lib.hid rfl⟩
  obtain ⟨rn, Hrn⟩ : ∃ x, Hid (rdN l = x) := ⟨_, Lib.hid rfl⟩
  obtain ⟨T, HT⟩ : ∃ x, Hid (rdL l = x) := ⟨_, Lib.hid rfl⟩
  obtain ⟨U, HU⟩ : ∃ x, Hid (rdE l = x) := ⟨_, Lib.hid rfl⟩
  rw [HT.out, HU.out]
  have Hres : Hid ((E ≠ 0 ∧ T = .zero ∧ U = 10) ∨ (E = 0 ∧ B ≠ l ∧ T = .zero ∧ U = 10) ∨ (E = 0 ∧ B = l ∧ T = m ∧ U = 0)) := Lib.hid (by
    rw [← HE.out, ← HB.out, ← HT.out, ← HU.out, rdL, rdE, Hok.out, Hm.out, layBE]
    cases hk : layOk m
    · left; simp
    · right
      by_cases hb : layB m = l
      · right; simp [hb]
      · left; simp [hb])
  go_enter Try.func13, Try.ntmps13
  go_wp2_with fail
  refine (Read_any _ _).mono ?_
  rintro e w1 ⟨rfl, hb, hr, hz⟩
  obtain ⟨p, Hp⟩ : ∃ p, Hid (w.heap.size = p) := ⟨_, Lib.hid rfl⟩
  have hq0 : (w.alloc (.cells #[.int .i64 0, .int .i64 0, .int .i64 0, .int .i64 0] 24)).heap.size = p + 1 := by rw [← Hp.out]; simp
  rw [hq0] at hb hr hz
  have hl1 : LayAt w1 p .zero := LayAt.below (w := w.alloc (.cells #[.int .i64 0, .int .i64 0, .int .i64 0, .int .i64 0] 24)) (by rw [← Hp.out]; exact ⟨by go_simp; rfl, by go_simp; rfl, by go_simp; rfl, by go_simp; rfl⟩) (by rw [hq0]; exact hb)
  have hf1 : ∀ j, w1.frozen? ⟨p, j, none⟩ = false := fun j => (hb.frozen (p := ⟨p, j, none⟩) (by show p < p + 1; omega)).trans (by rw [← Hp.out]; go_simp)
  have Hb : Hid (Below p w w1) := Lib.hid (by rw [← Hp.out]; rw [← Hp.out] at hb; exact (balloc (Below.refl _ w) _).trans (hb.mono (by simp)))
  have H1 : Hid (LayAt w1 p .zero ∧ ∀ j, w1.frozen? ⟨p, j, none⟩ = false) := Lib.hid ⟨hl1, hf1⟩
  have Hr := Lib.hid hr
  rw [hq0]
  clear hl1 hf1 hb hr hz
  go_wp2_with fail
  refine (RFour_any _ _ _ _ Hr.out).mono ?_
  rintro e w2 ⟨rfl, hm2, hr2⟩
  have M2 := Lib.hid hm2
  have R2 := Lib.hid hr2
  clear hm2 hr2
  go_wp2_with fail
  refine (RFour_any _ _ _ _ R2.out).mono ?_
  rw [show (((num (takeS (takeL l 4) 4) : Nat) : Int)) = rs from Hrs.out]
  rintro e w3 ⟨rfl, hm3, hr3⟩
  have M3 := Lib.hid (M2.out.trans hm3)
  have R3 := Lib.hid hr3
  clear hm3 hr3
  go_wp2_with fail
  refine (RTwo_any _ _ _ _ R3.out).mono ?_
  rw [show (((textN (takeL (takeL l 4) 4) : Nat) : Int)) = rn from Hrn.out]
  rintro e w4 ⟨rfl, hm4, hr4⟩
  have M4 := Lib.hid (M3.out.trans hm4)
  clear hm4 hr4
  go_wp2_with fail
  refine (LNew_any _ _ _).mono ?_
  rw [show layN rs rn = m by rw [← Hrs.out, ← Hrn.out]; exact Hrd.out, show layE rs rn = X by rw [← Hrs.out, ← Hrn.out]; exact HX.out]
  rintro e w5 ⟨rfl, hb5⟩
  have H5 : Hid (LayAt w5 p .zero ∧ ∀ j, w5.frozen? ⟨p, j, none⟩ = false) := Lib.hid ⟨(H1.out.1.later M4.out (by omega)).below hb5, fun j => (hb5.frozen (p := ⟨p, j, none⟩) (Nat.lt_of_lt_of_le H1.out.1.lt M4.out.size)).trans ((M4.out.frozen (p := ⟨p, j, none⟩) H1.out.1.lt (by show ¬ p = p + 1; omega)).trans (H1.out.2 j))⟩
  have B5 : Hid (Below p w w5) := Lib.hid ((M4.out.below Hb.out (by have := H1.out.1.lt; omega) (by rintro i rfl; omega)).trans (hb5.mono (by have := H1.out.1.lt; have := M4.out.size; omega)))
  clear hb5
  obtain ⟨q, Hq⟩ : ∃ q, Hid (w5.heap.size = q) := ⟨_, Lib.hid rfl⟩
  obtain ⟨W, HW⟩ : ∃ W, Hid (w5.alloc (.cells #[.int .i64 m.s, .int .i64 m.n, .int .i64 m.f, .int .i64 m.z] 24) = W) := ⟨_, Lib.hid rfl⟩
  have H6 : Hid (LayAt W p .zero ∧ ∀ j, W.frozen? ⟨p, j, none⟩ = false) := Lib.hid (by
    have hb : Below w5.heap.size w5 W := by rw [← HW.out]; exact balloc (Below.refl _ w5) _
    exact ⟨H5.out.1.below hb, fun j => (hb.frozen (p := ⟨p, j, none⟩) H5.out.1.lt).trans (H5.out.2 j)⟩)
  have H7 : Hid (LayAt W q m) := Lib.hid (by rw [← HW.out, ← Hq.out]; exact ⟨by go_simp, by go_simp, by go_simp, by go_simp⟩)
  have B6 : Hid (Below p w W) := Lib.hid (by rw [← HW.out]; exact B5.out.alloc (by have := H5.out.1.lt; omega) _)
  have hW := HW.out
  have hql := H7.out.lt
  obtain ⟨c0, c1, c2, c3⟩ := H7.out
  rw [Hp.out]
  have hq := Hq.out
  go_wp2_with fail
  refine (LBytes_any _ _).mono ?_
  rw [HB.out, HE.out]
  rintro e w7 ⟨rfl, hb7⟩
  have H8 : Hid (LayAt w7 p .zero ∧ ∀ j, w7.frozen? ⟨p, j, none⟩ = false) := Lib.hid ⟨H6.out.1.below hb7, fun j => (hb7.frozen (p := ⟨p, j, none⟩) H6.out.1.lt).trans (H6.out.2 j)⟩
  have H9 : Hid (LayAt w7 q m) := Lib.hid (H7.out.below hb7)
  have B7 : Hid (Below p w w7) := Lib.hid (B6.out.trans (hb7.mono (by have := H6.out.1.lt; omega)))
  clear hb7 c0 c1 c2 c3 hql hW hq
  have hql := H9.out.lt
  have hpl := H8.out.1.lt
  obtain ⟨c0, c1, c2, c3⟩ := H9.out
  obtain ⟨d0, d1, d2, d3⟩ := H8.out.1
  have f0 := H8.out.2 0
  have f1 := H8.out.2 1
  have f2 := H8.out.2 2
  have f3 := H8.out.2 3
  rcases Hres.out with ⟨h0, ht, hu⟩ | ⟨h0, h1, ht, hu⟩ | ⟨h0, h1, ht, hu⟩
  · have hb : (E != 0) = true := by simp [h0]
    have Ht := Lib.hid ht
    have Hu := Lib.hid hu
    clear h0 ht hu
    go_wp2
    refine bodyPost_ret (v := .tuple #[Lay.zero.v, .int .i64 10]) ?_ rfl ⟨?_, ?_⟩
    · rw [results_cell_tmp rfl]
      go_simp
      all_goals exact ⟨rfl, rfl, rfl, rfl⟩
    · rw [Ht.out, Hu.out]
    · rw [Hp.out]
      exact (((B7.out.setCell (Nat.le_refl _) _).setCell (Nat.le_refl _) _).setCell (Nat.le_refl _) _).setCell (Nat.le_refl _) _
  · have hb : (E != 0) = false := by simp [h0]
    have hb2 : (B == l) = false := by simp [h1]
    have Ht := Lib.hid ht
    have Hu := Lib.hid hu
    clear h0 h1 ht hu
    go_wp2
    refine bodyPost_ret (v := .tuple #[Lay.zero.v, .int .i64 10]) ?_ rfl ⟨?_, ?_⟩
    · rw [results_cell_tmp rfl]
      go_simp
      all_goals exact ⟨rfl, rfl, rfl, rfl⟩
    · rw [Ht.out, Hu.out]
    · rw [Hp.out]
      exact (((B7.out.setCell (Nat.le_refl _) _).setCell (Nat.le_refl _) _).setCell (Nat.le_refl _) _).setCell (Nat.le_refl _) _
  · have hb : (E != 0) = false := by simp [h0]
    have hb2 : (B == l) = true := by simp [h1]
    have Ht := Lib.hid ht
    have Hu := Lib.hid hu
    clear h0 h1 ht hu
    go_wp2
    refine bodyPost_ret (v := .tuple #[m.v, .int .i64 0]) ?_ rfl ⟨?_, ?_⟩
    · rw [results_cell_tmp rfl]
      go_simp
      all_goals exact ⟨rfl, rfl, rfl, rfl⟩
    · rw [Ht.out, Hu.out]
    · rw [Hp.out]
      exact (((B7.out.setCell (Nat.le_refl _) _).setCell (Nat.le_refl _) _).setCell (Nat.le_refl _) _).setCell (Nat.le_refl _) _
set_option maxRecDepth 100000 in
set_option maxHeartbeats 1000000 in
theorem XLRead_any (l : List UInt8) (w : World) :
    Calls Try.prog 14 #[.string (str l)] w fun e w' => e = .returned (.tuple #[(rdL l).v, .int .i64 (rdE l)]) ∧ Below w.heap.size w w' := by
  obtain ⟨p, Hp⟩ : ∃ p, Hid (w.heap.size = p) := ⟨_, Lib.hid rfl⟩
  by_cases h10 : l.length = 10 ∧ l.take 4 = signS
  · obtain ⟨ha, hs⟩ := h10
    obtain ⟨m, Hm⟩ : ∃ m, Hid (layN (rdS l) (rdN l) = m) := ⟨_, Lib.hid rfl⟩
    obtain ⟨X, HX⟩ : ∃ X, Hid (layE (rdS l) (rdN l) = X) := ⟨_, Lib.hid rfl⟩
    obtain ⟨T, HT⟩ : ∃ x, Hid (rdL l = x) := ⟨_, Lib.hid rfl⟩
    obtain ⟨U, HU⟩ : ∃ x, Hid (rdE l = x) := ⟨_, Lib.hid rfl⟩
    rw [HT.out, HU.out]
    have Hres : Hid ((X ≠ 0 ∧ T = .zero ∧ U = 10) ∨ (X = 0 ∧ T = m ∧ U = 0)) := Lib.hid (by
      rw [← HX.out, ← HT.out, ← HU.out, rdL, rdE, ← rdOk_doc, xrdOk, ha, hs, show rdLay l = m from Hm.out]
      by_cases h : layE (rdS l) (rdN l) = 0
      · right; simp [h]
      · left; simp [h])
    obtain ⟨rs, Hrs⟩ : ∃ x, Hid (rdS l = x) := ⟨_, Lib.hid rfl⟩
    obtain ⟨rn, Hrn⟩ : ∃ x, Hid (rdN l = x) := ⟨_, Lib.hid rfl⟩
    have Hd : Hid (takeL l 4 = l.drop 4) := Lib.hid (by rw [takeL, if_pos (by omega)])
    have hs3 : (l.take 4 == [76, 71, 83, 49]) = true := by rw [hs]; rfl
    have hla : (l.length : Int) = 10 := by omega
    have hlb : 4 ≤ l.length := by omega
    obtain ⟨W, HW⟩ : ∃ x, Hid ((w.alloc (.cells #[.int .i64 0, .int .i64 0, .int .i64 0, .int .i64 0] 24)).alloc (.cells #[.string (str (l.drop 4)), .int .i64 0, .bool false] 53) = x) := ⟨_, Lib.hid rfl⟩
    have HZ : Hid (LayAt W p .zero ∧ ∀ j, W.frozen? ⟨p, j, none⟩ = false) := Lib.hid (by
      rw [← HW.out, ← Hp.out]
      refine ⟨⟨?_, ?_, ?_, ?_⟩, fun j => ?_⟩ <;> go_simp <;> rfl)
    have HR : Hid (AR W (p + 1) (takeL l 4) false) := Lib.hid (by
      rw [Hd.out, ← HW.out, ← Hp.out]
      refine ⟨l.drop 4, 0, ⟨?_, ?_, ?_, ?_, ?_⟩, by omega, by simp; omega, rfl⟩ <;> go_simp <;> rfl)
    have HB : Hid (Below p w W) := Lib.hid (by rw [← HW.out, ← Hp.out]; exact balloc (balloc (Below.refl _ w) _) _)
    clear ha hs
    go_enter Try.func14, Try.ntmps14
    go_wp2_with fail
    rw [HW.out, Hp.out]
    refine (AFour_any _ _ _ _ HR.out).mono ?_
    rw [show (((num (takeS (takeL l 4) 4) : Nat) : Int)) = rs from Hrs.out]
    rintro e w1 ⟨rfl, hm, hr⟩
    have M1 := Lib.hid hm
    have R1 := Lib.hid hr
    clear hm hr
    go_wp2_with fail
    refine (ATwo_any _ _ _ _ R1.out).mono ?_
    rw [show (((textN (takeL (takeL l 4) 4) : Nat) : Int)) = rn from Hrn.out]
    rintro e w4 ⟨rfl, hm, hr⟩
    have M4 := Lib.hid (M1.out.trans hm)
    clear hm hr
    go_wp2_with fail
    refine (XLNew_any _ _ _).mono ?_
    rw [show layN rs rn = m by rw [← Hrs.out, ← Hrn.out]; exact Hm.out, show layE rs rn = X by rw [← Hrs.out, ← Hrn.out]; exact HX.out]
    rintro e w5 ⟨rfl, hb5⟩
    have H5 : Hid (LayAt w5 p .zero ∧ ∀ j, w5.frozen? ⟨p, j, none⟩ = false) := Lib.hid ⟨(HZ.out.1.later M4.out (by omega)).below hb5, fun j => (hb5.frozen (p := ⟨p, j, none⟩) (Nat.lt_of_lt_of_le HZ.out.1.lt M4.out.size)).trans ((M4.out.frozen (p := ⟨p, j, none⟩) HZ.out.1.lt (by show ¬ p = p + 1; omega)).trans (HZ.out.2 j))⟩
    have B5 : Hid (Below p w w5) := Lib.hid ((M4.out.below HB.out (by have := HZ.out.1.lt; omega) (by rintro i rfl; omega)).trans (hb5.mono (by have := HZ.out.1.lt; have := M4.out.size; omega)))
    clear hb5
    obtain ⟨q, Hq⟩ : ∃ q, Hid (w5.heap.size = q) := ⟨_, Lib.hid rfl⟩
    obtain ⟨W7, HW7⟩ : ∃ W, Hid (w5.alloc (.cells #[.int .i64 m.s, .int .i64 m.n, .int .i64 m.f, .int .i64 m.z] 24) = W) := ⟨_, Lib.hid rfl⟩
    have H8 : Hid (LayAt W7 p .zero ∧ ∀ j, W7.frozen? ⟨p, j, none⟩ = false) := Lib.hid (by
      have hb : Below w5.heap.size w5 W7 := by rw [← HW7.out]; exact balloc (Below.refl _ w5) _
      exact ⟨H5.out.1.below hb, fun j => (hb.frozen (p := ⟨p, j, none⟩) H5.out.1.lt).trans (H5.out.2 j)⟩)
    have H9 : Hid (LayAt W7 q m) := Lib.hid (by rw [← HW7.out, ← Hq.out]; exact ⟨by go_simp, by go_simp, by go_simp, by go_simp⟩)
    have B7 : Hid (Below p w W7) := Lib.hid (by rw [← HW7.out]; exact B5.out.alloc (by have := H5.out.1.lt; omega) _)
    have hW := HW7.out
    have hq := Hq.out
    have hql := H9.out.lt
    have hpl := H8.out.1.lt
    obtain ⟨c0, c1, c2, c3⟩ := H9.out
    obtain ⟨d0, d1, d2, d3⟩ := H8.out.1
    have f0 := H8.out.2 0
    have f1 := H8.out.2 1
    have f2 := H8.out.2 2
    have f3 := H8.out.2 3
    rcases Hres.out with ⟨h0, ht, hu⟩ | ⟨h0, ht, hu⟩
    · have hb : (X != 0) = true := by simp [h0]
      have Ht := Lib.hid ht
      have Hu := Lib.hid hu
      clear h0 ht hu
      go_wp2
      refine bodyPost_ret (v := .tuple #[Lay.zero.v, .int .i64 10]) ?_ rfl ⟨?_, ?_⟩
      · rw [results_cell_tmp rfl]
        go_simp
        all_goals exact ⟨rfl, rfl, rfl, rfl⟩
      · rw [Ht.out, Hu.out]
      · rw [Hp.out]
        exact (((B7.out.setCell (Nat.le_refl _) _).setCell (Nat.le_refl _) _).setCell (Nat.le_refl _) _).setCell (Nat.le_refl _) _
    · have hb : (X != 0) = false := by simp [h0]
      have Ht := Lib.hid ht
      have Hu := Lib.hid hu
      clear h0 ht hu
      go_wp2
      refine bodyPost_ret (v := .tuple #[m.v, .int .i64 0]) ?_ rfl ⟨?_, ?_⟩
      · rw [results_cell_tmp rfl]
        go_simp
        all_goals exact ⟨rfl, rfl, rfl, rfl⟩
      · rw [Ht.out, Hu.out]
      · rw [Hp.out]
        exact (((B7.out.setCell (Nat.le_refl _) _).setCell (Nat.le_refl _) _).setCell (Nat.le_refl _) _).setCell (Nat.le_refl _) _
  · have hno : rdOk l = false := by
      rw [← rdOk_doc, xrdOk]
      by_cases h1 : l.length = 10
      · have h2 : l.take 4 ≠ signS := fun h => h10 ⟨h1, h⟩
        simp [h2]
      · simp [h1]
    have Ht : Hid (rdL l = .zero) := Lib.hid (by rw [rdL, hno]; rfl)
    have Hu : Hid (rdE l = 10) := Lib.hid (by rw [rdE, hno]; rfl)
    rw [Ht.out, Hu.out]
    by_cases h1 : l.length = 10
    · have h2 : l.take 4 ≠ signS := fun h => h10 ⟨h1, h⟩
      have hs3 : (l.take 4 == [76, 71, 83, 49]) = false := by simpa [signS] using h2
      have hla : (l.length : Int) = 10 := by omega
      have hlb : 4 ≤ l.length := by omega
      clear h1 h2 h10 hno
      go_enter Try.func14, Try.ntmps14
      go_wp2
      refine bodyPost_ret (v := .tuple #[Lay.zero.v, .int .i64 10]) ?_ rfl ⟨rfl, balloc (Below.refl _ _) _⟩
      rw [results_cell_tmp rfl]
      go_simp
      all_goals exact ⟨rfl, rfl, rfl, rfl⟩
    · have hla : ((l.length : Int) != 10) = true := by simp; omega
      clear h1 h10 hno
      go_enter Try.func14, Try.ntmps14
      go_wp2
      refine bodyPost_ret (v := .tuple #[Lay.zero.v, .int .i64 10]) ?_ rfl ⟨rfl, balloc (Below.refl _ _) _⟩
      rw [results_cell_tmp rfl]
      go_simp
      all_goals exact ⟨rfl, rfl, rfl, rfl⟩
end Go.Proofs.Ytnddfekgbabmdaa
