/- What the statements on disks share. -/
import Derived.Test.YtcahccjlompilaaAwake04
import Derived.Test.YtcahccjlompilaaDiskR
namespace Go.Proofs.Ytcahccjlompilaa
open Go.RowKit

theorem rest_neg {n m : Int} (hm : 0 < m) (hm2 : m ≤ 1000000) (h : n.tmod m < 0) : ∃ k : Nat, Hid (wrap64 (-n.tmod m) = (k : Int)) ∧ (k : Int) < m := by
  have h1 : n < 0 := by
    rcases Int.lt_or_le n 0 with h1 | h1
    · exact h1
    · rw [Int.tmod_eq_emod_of_nonneg h1] at h
      have := Int.emod_nonneg n (b := m) (by omega)
      omega
  have e : -n.tmod m = (-n) % m := by rw [← Int.neg_tmod, Int.tmod_eq_emod_of_nonneg (by omega)]
  have h2 := Int.emod_nonneg (-n) (b := m) (by omega)
  have h3 := Int.emod_lt_of_pos (-n) hm
  refine ⟨((-n) % m).toNat, Lib.hid ?_, by omega⟩
  rw [e, IntWalk.wrap64_in _ ⟨by omega, by omega⟩]
  omega
theorem rest_pos {n m : Int} (hm : 0 < m) (h : 0 ≤ n.tmod m) : ∃ k : Nat, Hid (n.tmod m = (k : Int)) ∧ (k : Int) < m := by
  have h1 : n.tmod m < m := Int.tmod_lt_of_pos n hm
  exact ⟨(n.tmod m).toNat, Lib.hid (by omega), by omega⟩
theorem sec_zero (x : Int) : sec x ≠ zero512 := by
  intro h
  have e : (sec x).getD 1 0 = 1 := rfl
  rw [h] at e
  revert e
  decide
theorem wf_small {k : Int} (h0 : -1000000 ≤ k) (h1 : k ≤ 1000000) : (Lit.int .i64 k).wf = true := WalkArith.wf_i64 (by omega)
theorem lieI_nat {s : DS} {i : Nat} (h : i < s.lies.length) : lieI s (i : Int) = s.lies[i] := by
  have : thereB s i = true := by simp [thereB]; omega
  rw [lieI, if_pos this, Int.toNat_natCast, List.getD_eq_getElem?_getD, List.getElem?_eq_getElem h]; rfl
theorem thereB_nat {s : DS} {i : Nat} (h : i < s.lies.length) : thereB s (i : Int) = true := by simp [thereB]; omega
end Go.Proofs.Ytcahccjlompilaa
