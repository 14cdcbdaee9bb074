/- PLAIN: names and zones. -/
import Derived.Test.YtiomhdanmcnaeaaGreatDoorBase
namespace Go.Proofs.YtiomhdanmcnaeaaGreatDoor
open Go.RowKit

@[go_sem] theorem str_none : (⟨#[]⟩ : ByteArray) = str [] := rfl
/-- A byte of a name. -/
def chB (c : Nat) : Bool := decide (97 ≤ c ∧ c ≤ 122) || decide (65 ≤ c ∧ c ≤ 90) || decide (48 ≤ c ∧ c ≤ 57) || c == 46 || c == 45 || c == 95
def nameB (l : List UInt8) : Bool := decide (1 ≤ l.length) && decide (l.length ≤ 30) && !(l == [46]) && !(l == [46, 46]) && l.all fun c => chB c.toNat
theorem chB_high {c : Nat} (h : 128 ≤ c) : chB c = false := by
  unfold chB; simp; omega
/-- The bytes' sum, and the zone. -/
def sumU (l : List UInt8) : Nat := (l.map UInt8.toNat).sum
def zoneU (l : List UInt8) : Nat := sumU l % 4
theorem sumU_step {l : List UInt8} {k : Nat} (h : k < l.length) : sumU (l.take (k + 1)) = sumU (l.take k) + l[k].toNat := by
  rw [List.take_succ_eq_append_getElem h, sumU, sumU, List.map_append, List.sum_append]
  simp
theorem sumU_le : ∀ l : List UInt8, sumU l ≤ 255 * l.length
  | [] => Nat.le_refl _
  | a :: l => by
    have h := sumU_le l
    have ha := a.toNat_lt
    rw [sumU, List.map_cons, List.sum_cons, List.length_cons]
    rw [sumU] at h
    omega
theorem sumU_append (a b : List UInt8) : sumU (a ++ b) = sumU a + sumU b := by rw [sumU, List.map_append, List.sum_append]; rfl
theorem zoneU_lt (l : List UInt8) : zoneU l < 4 := Nat.mod_lt _ (by decide)
theorem zoneU_append (a b : List UInt8) : zoneU (a ++ b) = (zoneU a + zoneU b) % 4 := by unfold zoneU; rw [sumU_append]; omega
end Go.Proofs.YtiomhdanmcnaeaaGreatDoor
