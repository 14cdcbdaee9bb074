/- Are two lists of names the same, at this translation. -/
import Derived.Test.YtnoidhfhnaemgaaDoorSx15
import Derived.Deep.QuietTactic
import Derived.BigQuiet
namespace Go.Proofs.YtnoidhfhnaemgaaDoor
open Go.RowKit

set_option maxRecDepth 100000 in
set_option maxHeartbeats 4000000 in
theorem SameNames_any (x y : List (List UInt8)) (A B : Option Addr) (n c m d : Nat) (w : World) (hx : IsG w 1 encT A n x) (hy : IsG w 1 encT B m y) (hn : n ≤ 1000) (hm : m ≤ 1000) :
    Calls Tryd.prog 14 #[.slice A n c, .slice B m d] w fun e w' => e = .returned (.bool (decide (x = y))) ∧ Below w.heap.size w w' := by
  have Hx := Lib.hid hx
  have Hy := Lib.hid hy
  have Hlx := Lib.hid hx.length
  have Hly := Lib.hid hy.length
  obtain ⟨R, HR⟩ : ∃ b, Hid (decide (x = y) = b) := ⟨_, Lib.hid rfl⟩
  rw [HR.out]
  go_enter Tryd.func14, Tryd.ntmps14
  by_cases hnm : n = m
  case neg =>
    have hq : ((n : Int) != (m : Int)) = true := by simp; omega
    have HRf : Hid (false = R) := Lib.hid (by
      rw [← HR.out, eq_comm]
      refine decide_eq_false (fun e => hnm ?_)
      rw [← Hlx.out, ← Hly.out, e])
    clear hx hy
    go_wp2
    go_ret
    exact ⟨ret_bool HRf.out, Below.refl _ _⟩
  case pos =>
  subst hnm
  clear hx hy
  go_wp2_with fail
  go_loopw [5] (fun i wr => ∃ j q : Nat, j ≤ n ∧ i = .int .i64 j ∧ Hid (x.take j = y.take j) ∧ Hid (wr = w.drewN q)) (fun i _ => n - (intOf i).toNat)
  case atStart => exact ⟨0, 0, Nat.zero_le _, rfl, Lib.hid rfl, Lib.hid rfl⟩
  case round =>
    obtain ⟨j, q, hj, rfl, HT, Hwr⟩ := hrel
    have hwr := Hwr.out
    subst hwr
    by_cases hlt : j < n
    · have hltI : (j : Int) < (n : Int) := by omega
      obtain ⟨a, ha⟩ : ∃ a, x[j]? = some a := ⟨_, List.getElem?_eq_getElem (by rw [Hlx.out]; exact hlt)⟩
      obtain ⟨b, hb⟩ : ∃ b, y[j]? = some b := ⟨_, List.getElem?_eq_getElem (by rw [Hly.out]; exact hlt)⟩
      obtain ⟨g, off, rfl, e0⟩ := Hx.out.txt ha
      obtain ⟨g', off', rfl, e1⟩ := Hy.out.txt hb
      have Ha := Lib.hid ha
      have Hb := Lib.hid hb
      clear ha hb
      by_cases hab : a = b
      · have hbb : (a == b) = true := by simp [hab]
        have HT2 : Hid (x.take (j + 1) = y.take (j + 1)) := Lib.hid (by
          obtain ⟨h1, h2⟩ := List.getElem?_eq_some_iff.1 Ha.out
          obtain ⟨h3, h4⟩ := List.getElem?_eq_some_iff.1 Hb.out
          rw [List.take_succ_eq_append_getElem h1, List.take_succ_eq_append_getElem h3, HT.out, h2, h4, hab])
        clear hab
        go_wp2_with fail
        go_quiet (fail)
        go_wp2
        go_roundw
        case rel => exact ⟨j + 1, _, by omega, by go_num, HT2, Lib.hid rfl⟩
        case measure => simp [intOf]; omega
      · have hbb : (a == b) = false := by simp [hab]
        have HRf : Hid (false = R) := Lib.hid (by
          rw [← HR.out, eq_comm]
          refine decide_eq_false (fun e => hab ?_)
          have := Ha.out
          rw [e, Hb.out] at this
          exact (Option.some.inj this).symm)
        have BE : Hid (∀ k, Below w.heap.size w ((w.drewN q).drewN k)) := Lib.hid (fun k => bnext (below_drewN w q) (below_drewN _ k))
        clear hab
        go_wp2_with fail
        go_quiet (fail)
        go_wp2
        go_ret
        exact ⟨ret_bool HRf.out, BE.out _⟩
    · have hjn : j = n := by omega
      have hltI : ¬ (j : Int) < (n : Int) := by omega
      have HRt : Hid (true = R) := Lib.hid (by
        rw [← HR.out, eq_comm]
        have h := HT.out
        rw [hjn, List.take_of_length_le (by rw [Hlx.out]; exact Nat.le_refl _), List.take_of_length_le (by rw [Hly.out]; exact Nat.le_refl _)] at h
        exact decide_eq_true h)
      have BE := Lib.hid (below_drewN w q)
      clear hjn
      go_wp2
      go_ret
      exact ⟨ret_bool HRt.out, BE.out⟩
end Go.Proofs.YtnoidhfhnaemgaaDoor
