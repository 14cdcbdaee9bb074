
/- What the document tells of modes. -/
import Derived.Test.YthpmodohfjjjcaaStrong
namespace Go.Proofs.Ythpmodohfjjjcaa
open Go.RowKit

theorem IsR_any (w : World) (z : Int) : Calls Try.prog 59 #[.int .i64 z] w fun e w' => e = .returned (.bool (modeB z)) ∧ w = w' := by
  rcases mode_cases z with rfl | rfl | rfl | hn
  · go_enter Try.func59, Try.ntmps59
    go_wp2
    go_ret
    exact ⟨rfl, rfl⟩
  · go_enter Try.func59, Try.ntmps59
    go_wp2
    go_ret
    exact ⟨rfl, rfl⟩
  · go_enter Try.func59, Try.ntmps59
    go_wp2
    go_ret
    exact ⟨rfl, rfl⟩
  · rw [hn]
    simp only [modeB, Bool.or_eq_false_iff] at hn
    obtain ⟨⟨h0, h1⟩, h2⟩ := hn
    go_enter Try.func59, Try.ntmps59
    go_wp2
    go_ret
    exact ⟨rfl, rfl⟩
theorem mode_three {z : Int} (h : modeB z = true) : z = 0 ∨ z = 1 ∨ z = 2 := by
  rcases mode_cases z with h | h | h | h2
  · exact .inl h
  · exact .inr (.inl h)
  · exact .inr (.inr h)
  · rw [h] at h2; cases h2
set_option maxHeartbeats 1000000 in
theorem FitR_any (w : World) (a b : Int) : Calls Try.prog 60 #[.int .i64 a, .int .i64 b] w fun e w' => e = .returned (.bool (fitB a b)) ∧ w = w' := by
  obtain ⟨x, Hx⟩ : ∃ x, Hid (modeB a = x) := ⟨_, Lib.hid rfl⟩
  obtain ⟨y, Hy⟩ : ∃ x, Hid (modeB b = x) := ⟨_, Lib.hid rfl⟩
  obtain ⟨R, HR⟩ : ∃ x, Hid (fitB a b = x) := ⟨_, Lib.hid rfl⟩
  have HR2 := HR
  rw [fitB, Hx.out, Hy.out] at HR2
  rw [HR.out]
  go_enter Try.func60, Try.ntmps60
  go_wp2_with fail
  refine (IsR_any _ a).mono ?_
  rw [Hx.out]
  rintro e w1 ⟨rfl, rfl⟩
  go_wp2_with fail
  refine (IsR_any _ b).mono ?_
  rw [Hy.out]
  rintro e w1 ⟨rfl, rfl⟩
  cases x
  · go_wp2
    go_ret
    exact ⟨ret_bool HR2.out, rfl⟩
  · cases y
    · go_wp2
      go_ret
      exact ⟨ret_bool HR2.out, rfl⟩
    · rcases mode_three Hx.out with rfl | rfl | rfl
      · go_wp2
        go_ret
        exact ⟨ret_bool HR2.out, rfl⟩
      · rcases mode_three Hy.out with rfl | rfl | rfl
        · go_wp2
          go_ret
          exact ⟨ret_bool HR2.out, rfl⟩
        · go_wp2
          go_ret
          exact ⟨ret_bool HR2.out, rfl⟩
        · go_wp2
          go_ret
          exact ⟨ret_bool HR2.out, rfl⟩
      · rcases mode_three Hy.out with rfl | rfl | rfl
        · go_wp2
          go_ret
          exact ⟨ret_bool HR2.out, rfl⟩
        · go_wp2
          go_ret
          exact ⟨ret_bool HR2.out, rfl⟩
        · go_wp2
          go_ret
          exact ⟨ret_bool HR2.out, rfl⟩
theorem max_plain (a b : Int) : maxM a b = if modeB a && modeB b then (if b < a then a else b) else 0 := by
  unfold maxM covB
  cases modeB a <;> cases modeB b <;> simp
  rcases Int.lt_trichotomy a b with h | h | h
  · rw [if_neg (by omega), if_pos (by omega), if_neg (by omega)]
  · subst h; simp
  · rw [if_pos (by omega), if_pos h]
/-- The best so far. -/
def bestM (m : Int) : Nat → Int
  | 0 => 0
  | k + 1 => if fitB m (k : Int) then (k : Int) else bestM m k
theorem best_three (m : Int) : bestM m 3 = restM m := by
  rcases mode_cases m with rfl | rfl | rfl | h
  · rfl
  · rfl
  · rfl
  · simp [bestM, restM, fitB, h]
theorem rest_none {m : Int} (h : modeB m = false) : restM m = 0 := by simp [restM, fitB, h]
end Go.Proofs.Ythpmodohfjjjcaa
