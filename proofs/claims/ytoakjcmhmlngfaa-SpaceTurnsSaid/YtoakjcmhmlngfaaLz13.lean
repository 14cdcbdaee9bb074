
/- What package layout and the document give, at this translation: in which zone a sector lies, a new zone's map, and what is read. -/
import Derived.Test.YtoakjcmhmlngfaaLy13
import Derived.Test.YtoakjcmhmlngfaaBits
import Derived.Test.YtoakjcmhmlngfaaRef03b
namespace Go.Proofs.Ytoakjcmhmlngfaa
open Go.RowKit

/-! ### in which zone a sector lies -/
theorem zoneFrom_hit {l : Lay} {x : Int} {k z : Nat} (h : l.f + z * l.z ≤ x ∧ x < l.f + z * l.z + l.z) : zoneFrom l x (k + 1) z = ((z : Int), x - (l.f + z * l.z)) := by rw [zoneFrom, if_pos h]
theorem zoneFrom_miss {l : Lay} {x : Int} {k z : Nat} (h : ¬ (l.f + z * l.z ≤ x ∧ x < l.f + z * l.z + l.z)) : zoneFrom l x (k + 1) z = zoneFrom l x k (z + 1) := by rw [zoneFrom, if_neg h]
theorem layP_ok {l : Lay} (hk : layOk l = true) {z : Nat} (h : z < 4) (p : Int) : layP l z p = l.f + z * l.z + p := if_pos ⟨hk, by omega, by omega⟩
theorem mul_bds {l : Lay} (hk : LayOk l) {z : Nat} (h : z < 4) : 0 ≤ (z : Int) * l.z ∧ (z : Int) * l.z ≤ 16000 := by
  obtain ⟨z0, z1, z2⟩ := hk.z3
  have m0 : 0 ≤ (z : Int) * l.z := Int.mul_nonneg (by omega) (by omega)
  have m1 : (z : Int) * l.z ≤ 4 * l.z := Int.mul_le_mul_of_nonneg_right (by omega) (by omega)
  omega
set_option maxRecDepth 100000 in
set_option maxHeartbeats 1000000 in
theorem find_any (l : Lay) (x : Int) (_hx : (Lit.int .i64 x).wf = true) (w : World) :
    Calls Try.prog 30 #[l.v, .int .i64 x] w fun e w' => e = .returned (.tuple #[.int .i64 (layZP l x).1, .int .i64 (layZP l x).2]) ∧ Below w.heap.size w w' := by
  by_cases hk : layOk l = true
  · have hr : layZP l x = zoneFrom l x 4 0 := if_pos hk
    obtain ⟨z0, z1, z2⟩ := (LayOk.of hk).z3
    obtain ⟨f0, f1⟩ := (LayOk.of hk).fb
    have Hk := Lib.hid hk
    rw [hr]
    have HK := Lib.hid (LayOk.of hk)
    clear hk hr
    go_enter Try.func30, Try.ntmps30
    go_wp2_with fail
    refine (may_any _ _).mono ?_
    rw [Hk.out]
    rintro e w1 ⟨rfl, hb⟩
    obtain ⟨hl, hb⟩ := layBox _ _ _ hb
    have Hb := Lib.hid hb
    have Hl := Lib.hid hl
    clear hb hl
    go_wp2_with fail
    go_loopw [11] (fun i wr => ∃ z : Nat, z ≤ 4 ∧ i = .int .i64 z ∧ Hid (zoneFrom l x 4 0 = zoneFrom l x (4 - z) z) ∧ Hid (Below w1.heap.size w1 wr)) (fun i _ => 4 - (intOf i).toNat)
    case atStart => exact ⟨0, by omega, rfl, Lib.hid rfl, Lib.hid (Below.refl _ _)⟩
    case round =>
      obtain ⟨z, hz, rfl, Hz, Hbr⟩ := hrel
      by_cases hlt : z < 4
      · have hltI : (z : Int) < 4 := by omega
        have hl := Hl.out.below Hbr.out
        have hlt2 := hl.lt
        obtain ⟨c0, c1, c2, c3⟩ := hl
        go_wp2_with fail
        refine (Begin_any _ _ _).mono ?_
        rw [layP_ok Hk.out hlt, Int.add_zero]
        obtain ⟨b0, b1⟩ := mul_bds HK.out hlt
        obtain ⟨m, Hm⟩ : ∃ m, Hid ((z : Int) * l.z = m) := ⟨_, Lib.hid rfl⟩
        rw [Hm.out] at b0 b1 ⊢
        rintro e w2 ⟨rfl, hb2⟩
        have B2 := Lib.hid (bnext Hbr.out hb2)
        have hl2 := (LayAt.mk c0 c1 c2 c3).below hb2
        have hlt3 := hl2.lt
        clear c0 c1 c2 c3 hb2
        obtain ⟨c0, c1, c2, c3⟩ := hl2
        have k1 : IntKind.i64.wrap (l.f + m + l.z) = l.f + m + l.z := IntWalk.i64_in _ (by omega)
        by_cases hh : l.f + m ≤ x ∧ x < l.f + m + l.z
        · have He := Lib.hid (zoneFrom_hit (l := l) (x := x) (k := 4 - z - 1) (z := z) (by rw [Hm.out]; exact hh))
          obtain ⟨hh1, hh2⟩ := hh
          have k2 : IntKind.i64.wrap (x - (l.f + m)) = x - (l.f + m) := IntWalk.i64_in _ (by omega)
          go_wp2
          go_ret2
          refine ⟨?_, bnext Hb.out B2.out⟩
          rw [Hz.out, show 4 - z = 4 - z - 1 + 1 by omega, He.out, Hm.out]
          rfl
        · have He := Lib.hid (zoneFrom_miss (l := l) (x := x) (k := 4 - z - 1) (z := z) (by rw [Hm.out]; exact hh))
          have Hr : Hid (zoneFrom l x 4 0 = zoneFrom l x (4 - (z + 1)) (z + 1)) := Lib.hid (by rw [Hz.out, show 4 - z = 4 - z - 1 + 1 by omega, He.out]; congr 1)
          by_cases h1 : l.f + m ≤ x
          · have h2 : l.f + m + l.z ≤ x := by omega
            clear hh
            go_wp2
            go_roundw
            case rel => exact ⟨z + 1, by omega, by go_num, Hr, B2⟩
            case measure => simp [intOf]; omega
          · clear hh
            go_wp2
            go_roundw
            case rel => exact ⟨z + 1, by omega, by go_num, Hr, B2⟩
            case measure => simp [intOf]; omega
      · obtain rfl : z = 4 := by omega
        go_wp2
        go_ret2
        refine ⟨?_, bnext Hb.out Hbr.out⟩
        rw [Hz.out]
        rfl
  · have hr : layZP l x = (-1, -1) := if_neg hk
    have Hk : Hid (layOk l = false) := Lib.hid (by simpa using hk)
    rw [hr]
    clear hk hr
    go_enter Try.func30, Try.ntmps30
    go_wp2_with fail
    refine (may_any _ _).mono ?_
    rw [Hk.out]
    rintro e w1 ⟨rfl, hb⟩
    have Hb := Lib.hid (layBox _ _ _ hb).2
    clear hb
    go_wp2
    go_ret2
    exact ⟨rfl, Hb.out⟩
theorem Zone_any (l : Lay) (x : Int) (hx : (Lit.int .i64 x).wf = true) (w : World) :
    Calls Try.prog 14 #[l.v, .int .i64 x] w fun e w' => e = .returned (.int .i64 (layZP l x).1) ∧ Below w.heap.size w w' := by
  go_enter Try.func14, Try.ntmps14
  go_wp2_with fail
  refine (find_any _ _ hx _).mono ?_
  rintro e w1 ⟨rfl, hb⟩
  have Hb := Lib.hid (layBox _ _ _ hb).2
  clear hb
  go_wp2
  go_ret
  exact ⟨rfl, Hb.out⟩
theorem Place_any (l : Lay) (x : Int) (hx : (Lit.int .i64 x).wf = true) (w : World) :
    Calls Try.prog 24 #[l.v, .int .i64 x] w fun e w' => e = .returned (.int .i64 (layZP l x).2) ∧ Below w.heap.size w w' := by
  go_enter Try.func24, Try.ntmps24
  go_wp2_with fail
  refine (find_any _ _ hx _).mono ?_
  rintro e w1 ⟨rfl, hb⟩
  have Hb := Lib.hid (layBox _ _ _ hb).2
  clear hb
  go_wp2
  go_ret
  exact ⟨rfl, Hb.out⟩
theorem zp_from (l : Lay) (x : Int) : ∀ k z : Nat, zoneFrom l x k z = (-1, -1) ∨ ∃ y : Nat, y < z + k ∧ zoneFrom l x k z = ((y : Int), x - (l.f + y * l.z)) ∧ l.f + y * l.z ≤ x ∧ x < l.f + y * l.z + l.z
  | 0, _ => .inl rfl
  | k + 1, z => by
    by_cases h : l.f + z * l.z ≤ x ∧ x < l.f + z * l.z + l.z
    · exact .inr ⟨z, by omega, zoneFrom_hit h, h.1, h.2⟩
    · rw [zoneFrom_miss h]
      rcases zp_from l x k (z + 1) with e | ⟨y, h1, h2⟩
      · exact .inl e
      · exact .inr ⟨y, by omega, h2⟩
theorem zp_cases (l : Lay) (x : Int) : layZP l x = (-1, -1) ∨ ∃ z : Nat, z < 4 ∧ layZP l x = ((z : Int), x - (l.f + z * l.z)) ∧ layOk l = true ∧ l.f + z * l.z ≤ x ∧ x < l.f + z * l.z + l.z := by
  by_cases hk : layOk l = true
  · rw [layZP, if_pos hk]
    rcases zp_from l x 4 0 with e | ⟨y, h1, h2, h3, h4⟩
    · exact .inl e
    · exact .inr ⟨y, by omega, h2, hk, h3, h4⟩
  · exact .inl (if_neg hk)
/-! ### a new zone's map -/
def mapM (z : Int) : List UInt8 := Bm.setI (Bm.setI (zeros z) 0 true) 1 true
def layM (l : Lay) : List UInt8 := if layOk l then mapM l.z else []
def mapK (z : Int) : Nat → List UInt8
  | 0 => zeros z
  | k + 1 => Bm.setI (mapK z k) k true
theorem mapK_length (z : Int) : ∀ k, (mapK z k).length = size z
  | 0 => zeros_length z
  | k + 1 => by rw [mapK, Bm.setI_length, mapK_length z k]
set_option maxRecDepth 100000 in
set_option maxHeartbeats 1000000 in
theorem LMap_any (l : Lay) (w : World) :
    Calls Try.prog 39 #[l.v] w fun e w' => e = .returned (.string (str (layM l))) ∧ Below w.heap.size w w' := by
  by_cases hk : layOk l = true
  · have hr : layM l = mapM l.z := if_pos hk
    have Hk := Lib.hid hk
    rw [hr]
    clear hk hr
    go_enter Try.func39, Try.ntmps39
    go_wp2_with fail
    refine (may_any _ _).mono ?_
    rw [Hk.out]
    rintro e w1 ⟨rfl, hb⟩
    obtain ⟨hl, hb⟩ := layBox _ _ _ hb
    have Hb := Lib.hid hb
    have hlt := hl.lt
    obtain ⟨c0, c1, c2, c3⟩ := hl
    clear hb
    go_wp2_with fail
    refine (New_any _ _).mono ?_
    rintro e w2 ⟨rfl, hb2⟩
    have B2 := Lib.hid (bnext Hb.out hb2)
    clear hb2 c0 c1 c2 c3 hlt
    go_wp2_with fail
    go_loopw [3, 11] (fun m i wr => ∃ k : Nat, k ≤ 2 ∧ i = .int .i64 k ∧ m = .string (str (mapK l.z k)) ∧ Hid (Below w.heap.size w wr)) (fun _ i _ => 2 - (intOf i).toNat)
    case atStart => exact ⟨0, by omega, rfl, rfl, B2⟩
    case round =>
      obtain ⟨k, hk, rfl, rfl, Hbr⟩ := hrel
      by_cases hlt : k < 2
      · have hltI : (k : Int) < 2 := by omega
        have hlen := mapK_length l.z k
        have hsz := size_le l.z
        go_wp2_with fail
        refine (Set_any _ (by omega) _ _ _).mono ?_
        rw [show Bm.setI (mapK l.z k) k true = mapK l.z (k + 1) from rfl]
        rintro e w3 ⟨rfl, hb3⟩
        have B3 := Lib.hid (bnext Hbr.out hb3)
        clear hb3
        go_wp2
        go_roundw
        case rel => exact ⟨k + 1, by omega, by go_num, rfl, B3⟩
        case measure => simp [intOf]; omega
      · obtain rfl : k = 2 := by omega
        go_wp2
        go_ret
        exact ⟨rfl, Hbr.out⟩
  · have hr : layM l = [] := if_neg hk
    have Hk : Hid (layOk l = false) := Lib.hid (by simpa using hk)
    rw [hr]
    clear hk hr
    go_enter Try.func39, Try.ntmps39
    go_wp2_with fail
    refine (may_any _ _).mono ?_
    rw [Hk.out]
    rintro e w1 ⟨rfl, hb⟩
    have Hb := Lib.hid (layBox _ _ _ hb).2
    clear hb
    go_wp2
    go_ret
    exact ⟨rfl, Hb.out⟩
set_option maxRecDepth 100000 in
set_option maxHeartbeats 1000000 in
theorem XLMap_any (l : Lay) (w : World) :
    Calls Try.prog 17 #[l.v] w fun e w' => e = .returned (.string (str (layM l))) ∧ Below w.heap.size w w' := by
  by_cases hk : layOk l = true
  · have hr : layM l = mapM l.z := if_pos hk
    have Hk := Lib.hid hk
    rw [hr]
    clear hk hr
    have hz0 := zeros_length l.z
    have hz1 : (Bm.setI (zeros l.z) 0 true).length = size l.z := by rw [Bm.setI_length, hz0]
    have hsz := size_le l.z
    go_enter Try.func17, Try.ntmps17
    go_wp2_with fail
    refine (Is_any _ _).mono ?_
    rw [Hk.out]
    rintro e w1 ⟨rfl, hb⟩
    obtain ⟨hl, hb⟩ := layBox _ _ _ hb
    have Hb := Lib.hid hb
    have hlt := hl.lt
    obtain ⟨c0, c1, c2, c3⟩ := hl
    clear hb
    go_wp2_with fail
    refine (XNew_any _ _).mono ?_
    rintro e w2 ⟨rfl, rfl⟩
    go_wp2_with fail
    refine (XSet_any (zeros l.z) (by omega) 0 (by omega) _ _).mono ?_
    rintro e w2 ⟨rfl, hb2⟩
    have B2 := Lib.hid (bnext Hb.out hb2)
    clear hb2
    go_wp2_with fail
    refine (XSet_any (Bm.setI (zeros l.z) 0 true) (by omega) 1 (by omega) _ _).mono ?_
    rintro e w3 ⟨rfl, hb3⟩
    have B3 := Lib.hid (bnext B2.out hb3)
    clear hb3 c0 c1 c2 c3 hlt
    rw [show Bm.setI (Bm.setI (zeros l.z) 0 true) 1 true = mapM l.z from rfl]
    go_wp2
    go_ret
    exact ⟨rfl, B3.out⟩
  · have hr : layM l = [] := if_neg hk
    have Hk : Hid (layOk l = false) := Lib.hid (by simpa using hk)
    rw [hr]
    clear hk hr
    go_enter Try.func17, Try.ntmps17
    go_wp2_with fail
    refine (Is_any _ _).mono ?_
    rw [Hk.out]
    rintro e w1 ⟨rfl, hb⟩
    have Hb := Lib.hid (layBox _ _ _ hb).2
    clear hb
    go_wp2
    go_ret
    exact ⟨rfl, Hb.out⟩
/-! ### what is read -/
theorem rd_lo (l : List UInt8) : 0 ≤ rdS l ∧ 0 ≤ rdN l ∧ rdS l < 4294967296 ∧ rdN l < 65536 := by
  have h1 := num_takeS (takeL l 4) 4
  have h2 := num_takeS (takeL (takeL l 4) 4) 2
  simp only [rdS, rdN]
  omega
end Go.Proofs.Ytoakjcmhmlngfaa
