/- The chapter's examples, and at most twelve claims. -/
import Derived.Test.YtfmbhpfggkmdoaaRefS8
namespace Go.Proofs.Ytfmbhpfggkmdoaa
open Go.RowKit

set_option maxHeartbeats 1000000 in
theorem awake_any (w : World) : Calls Try.prog 9 #[] w fun e w' => e = .returned (.bool true) ∧ Below w.heap.size w w' := by
  go_enter Try.func9, Try.ntmps9
  go_wp2_with fail
  refine (Fit_any _ 1 1).mono ?_
  rw [show fitB 1 1 = true from rfl]
  rintro e w1 ⟨rfl, hb⟩
  have B1 := Lib.hid hb
  clear hb
  go_wp2_with fail
  refine (Fit_any _ 1 2).mono ?_
  rw [show fitB 1 2 = false from rfl]
  rintro e w2 ⟨rfl, hb⟩
  have B2 := Lib.hid (bnext B1.out hb)
  clear hb
  go_wp2_with fail
  refine (Rest_any _ 0).mono ?_
  rw [show restM 0 = 2 from rfl]
  rintro e w3 ⟨rfl, hb⟩
  have B3 := Lib.hid (bnext B2.out hb)
  clear hb
  go_wp2_with fail
  refine (Rest_any _ 1).mono ?_
  rw [show restM 1 = 1 from rfl]
  rintro e w4 ⟨rfl, hb⟩
  have B4 := Lib.hid (bnext B3.out hb)
  clear hb
  go_wp2_with fail
  refine (Rest_any _ 2).mono ?_
  rw [show restM 2 = 0 from rfl]
  rintro e w5 ⟨rfl, hb⟩
  have B5 := Lib.hid (bnext B4.out hb)
  clear hb
  go_wp2_with fail
  refine (Name_any _ 1).mono ?_
  rw [show nameM 1 = [115, 104, 97, 114, 101] from rfl]
  rintro e w6 ⟨rfl, rfl⟩
  have hs : (str [115, 104, 97, 114, 101] == (⟨#[115, 104, 97, 114, 101]⟩ : ByteArray)) = true := by decide
  go_wp2
  go_ret
  exact ⟨rfl, B5.out⟩
theorem few_any (w : World) (A : Option Addr) (n cp : Nat) (l : List Cl) (hl : IsC w A n l) (hcp : n ≤ cp) (hA : A = none → n = 0) :
    Calls Try.prog 22 #[.slice A n cp] w fun e w' => ∃ m c', e = .returned (.slice A m c') ∧ m ≤ 12 ∧ IsC w A m (l.take 12) ∧ m ≤ c' ∧ w = w' := by
  have hn := hl.small
  have Hl := Lib.hid hl
  clear hl
  by_cases h12 : 12 < n
  · have h12' : (12 : Int) < (n : Int) := by omega
    cases A with
    | none => have := hA rfl; omega
    | some a =>
      go_enter Try.func22, Try.ntmps22
      go_wp2
      go_ret
      exact ⟨12, cp, rfl, Nat.le_refl _, Hl.out.take (by omega), by omega, rfl⟩
  · have h12' : ¬ (12 : Int) < (n : Int) := by omega
    go_enter Try.func22, Try.ntmps22
    go_wp2
    go_ret
    refine ⟨n, cp, rfl, by omega, ?_, hcp, rfl⟩
    rw [List.take_of_length_le (by rw [Hl.out.length]; omega)]
    exact Hl.out
end Go.Proofs.Ytfmbhpfggkmdoaa
