
/- Zones, at this translation. -/
import Derived.Test.YtiomhdanmcnaeaaGreatDoorEn15
import Derived.Test.YtiomhdanmcnaeaaGreatDoorChecked
import Derived.Test.YtiomhdanmcnaeaaGreatDoorClose
namespace Go.Proofs.YtiomhdanmcnaeaaGreatDoor
open Go.RowKit

set_option maxRecDepth 100000 in
set_option maxHeartbeats 1000000 in
theorem Zone_any (l : List UInt8) (hl : l.length ≤ 1000000) (w : World) :
    Calls Tryz.prog 48 #[.string (str l)] w fun e w' => e = .returned (.int .i64 (zoneU l : Int)) ∧ Below w.heap.size w w' := by
  go_enter Tryz.func48, Tryz.ntmps48
  go_wp2
  go_loopw [3, 7] (fun n i wr => ∃ (k s : Nat), k ≤ l.length ∧ i = .int .i64 (k : Int) ∧ n = .int .i64 (s : Int) ∧ Hid (sumU (l.take k) = s) ∧ Hid (Below w.heap.size w wr)) (fun _ i _ => l.length - (intOf i).toNat)
  case atStart => exact ⟨0, 0, by omega, rfl, rfl, Lib.hid rfl, Lib.hid (Below.refl _ _)⟩
  case round =>
    obtain ⟨k, s, hk, rfl, rfl, HS, HB⟩ := hrel
    by_cases hlt : k < l.length
    · have hltI : (k : Int) < (l.length : Int) := by omega
      have hs := sumU_le (l.take k)
      rw [HS.out, List.length_take] at hs
      obtain ⟨c, Hc⟩ : ∃ c, Hid (l[k] = c) := ⟨_, Lib.hid rfl⟩
      have hcl := c.toNat_lt
      have Hn : Hid (sumU (l.take (k + 1)) = s + c.toNat) := Lib.hid (by rw [sumU_step hlt, HS.out, Hc.out])
      have hw1 : IntKind.i64.wrap ((s : Int) + (c.toNat : Int)) = (s : Int) + (c.toNat : Int) := IntWalk.i64_in _ (by omega)
      have hck := Hc.out
      go_wp2_with fail
      exact ⟨⟨k + 1, s + c.toNat, by omega, by go_num, by go_num, Hn, HB⟩, by simp [intOf]; omega⟩
    · have hltI : ¬ (k : Int) < (l.length : Int) := by omega
      have hw : (s : Int) % 4 = (zoneU l : Int) := by
        have h := HS.out
        rw [List.take_of_length_le (by omega)] at h
        unfold zoneU; omega
      go_wp2_with fail
      go_ret
      exact ⟨rfl, HB.out⟩
end Go.Proofs.YtiomhdanmcnaeaaGreatDoor
