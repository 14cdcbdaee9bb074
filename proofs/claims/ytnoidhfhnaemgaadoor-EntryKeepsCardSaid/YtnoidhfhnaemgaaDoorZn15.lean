/- Zones, at this translation. -/
import Derived.Test.YtnoidhfhnaemgaaDoorEn15
import Derived.Test.YtnoidhfhnaemgaaDoorChecked
import Derived.Test.YtnoidhfhnaemgaaDoorClose
namespace Go.Proofs.YtnoidhfhnaemgaaDoor
open Go.RowKit

set_option maxRecDepth 100000 in
set_option maxHeartbeats 1000000 in
theorem Zone_any (l : List UInt8) (hl : l.length ≤ 1000000) (w : World) :
    Calls Tryd.prog 17 #[.string (str l)] w fun e w' => e = .returned (.int .i64 (zoneU l : Int)) ∧ Below w.heap.size w w' := by
  go_enter Tryd.func17, Tryd.ntmps17
  go_wp2
  go_loopw [3, 7] (fun n i wr => ∃ (k s : Nat), k ≤ l.length ∧ i = .int .i64 (k : Int) ∧ n = .int .i64 (s : Int) ∧ Hid (sumU (l.take k) = s) ∧ Hid (Below w.heap.size w wr)) (fun _ i _ => l.length - (intOf i).toNat)
  case atStart => exact ⟨0, 0, by omega, rfl, rfl, Lib.hid rfl, Lib.hid (Below.refl _ _)⟩
  case round =>
    obtain ⟨k, s, hk, rfl, rfl, HS, HB⟩ := hrel
    by_cases hlt : k < l.length
    · have hltI : (k : Int) < (l.length : Int) := by omega
      have hs := sumU_le (l.take k)
      rw [HS.out, List.length_take] at hs
      obtain ⟨c, Hc⟩ : ∃ c, Hid (l[k] = c) := ⟨_, Lib.hid rfl⟩
      have hcl := c.toNat_lt
      have Hn : Hid (sumU (l.take (k + 1)) = s + c.toNat) := Lib.hid (by rw [sumU_step hlt, HS.out, Hc.out])
      have hw1 : IntKind.i64.wrap ((s : Int) + (c.toNat : Int)) = (s : Int) + (c.toNat : Int) := IntWalk.i64_in _ (by omega)
      have hck := Hc.out
      go_wp2_with fail
      exact ⟨⟨k + 1, s + c.toNat, by omega, by go_num, by go_num, Hn, HB⟩, by simp [intOf]; omega⟩
    · have hltI : ¬ (k : Int) < (l.length : Int) := by omega
      have hw : (s : Int) % 4 = (zoneU l : Int) := by
        have h := HS.out
        rw [List.take_of_length_le (by omega)] at h
        unfold zoneU; omega
      go_wp2_with fail
      go_ret
      exact ⟨rfl, HB.out⟩
set_option maxRecDepth 100000 in
set_option maxHeartbeats 1000000 in
theorem XZone_any (l : List UInt8) (hl : l.length ≤ 1000000) (w : World) :
    Calls Tryd.prog 18 #[.string (str l)] w fun e w' => e = .returned (.int .i64 (zoneU l : Int)) ∧ Below w.heap.size w w' := by
  go_enter Tryd.func18, Tryd.ntmps18
  go_wp2
  go_loopw [3, 4] (fun n i wr => ∃ (k s : Nat), k ≤ l.length ∧ i = .int .i64 (k : Int) ∧ n = .int .i64 (s : Int) ∧ Hid (zoneU (l.take k) = s) ∧ Hid (Below w.heap.size w wr)) (fun _ i _ => l.length - (intOf i).toNat)
  case atStart => exact ⟨0, 0, by omega, rfl, rfl, Lib.hid rfl, Lib.hid (Below.refl _ _)⟩
  case round =>
    obtain ⟨k, s, hk, rfl, rfl, HS, HB⟩ := hrel
    by_cases hlt : k < l.length
    · have hltI : (k : Int) < (l.length : Int) := by omega
      have hs := zoneU_lt (l.take k)
      rw [HS.out] at hs
      obtain ⟨c, Hc⟩ : ∃ c, Hid (l[k] = c) := ⟨_, Lib.hid rfl⟩
      have hcl := c.toNat_lt
      have Hn : Hid (zoneU (l.take (k + 1)) = (s + c.toNat) % 4) := Lib.hid (by
        have h := HS.out
        unfold zoneU at h ⊢
        rw [sumU_step hlt, Hc.out]; omega)
      have hw1 : IntKind.i64.wrap ((s : Int) + (c.toNat : Int)) = (s : Int) + (c.toNat : Int) := IntWalk.i64_in _ (by omega)
      have hck := Hc.out
      obtain ⟨t, Ht⟩ : ∃ t : Nat, Hid ((s + c.toNat) % 4 = t) := ⟨_, Lib.hid rfl⟩
      rw [Ht.out] at Hn
      have hw2 : ((s : Int) + (c.toNat : Int)) % 4 = (t : Int) := by have := Ht.out; omega
      go_wp2_with fail
      exact ⟨⟨k + 1, t, by omega, by go_num, by rw [hw2], Hn, HB⟩, by simp [intOf]; omega⟩
    · have hltI : ¬ (k : Int) < (l.length : Int) := by omega
      have hw : (s : Int) = (zoneU l : Int) := by
        have h := HS.out
        rw [List.take_of_length_le (by omega)] at h
        omega
      go_wp2_with fail
      go_ret
      exact ⟨rfl, HB.out⟩
end Go.Proofs.YtnoidhfhnaemgaaDoor
