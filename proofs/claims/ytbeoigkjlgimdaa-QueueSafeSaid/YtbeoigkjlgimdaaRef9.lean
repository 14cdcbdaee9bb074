/- What the document tells of modes. -/
import Derived.Test.YtbeoigkjlgimdaaStrong
namespace Go.Proofs.Ytbeoigkjlgimdaa
open Go.RowKit

theorem IsR_any (w : World) (z : Int) : Calls Try.prog 20 #[.int .i64 z] w fun e w' => e = .returned (.bool (modeB z)) ∧ w = w' := by
  rcases mode_cases z with rfl | rfl | rfl | hn
  · go_enter Try.func20, Try.ntmps20
    go_wp2
    go_ret
    exact ⟨rfl, rfl⟩
  · go_enter Try.func20, Try.ntmps20
    go_wp2
    go_ret
    exact ⟨rfl, rfl⟩
  · go_enter Try.func20, Try.ntmps20
    go_wp2
    go_ret
    exact ⟨rfl, rfl⟩
  · rw [hn]
    simp only [modeB, Bool.or_eq_false_iff] at hn
    obtain ⟨⟨h0, h1⟩, h2⟩ := hn
    go_enter Try.func20, Try.ntmps20
    go_wp2
    go_ret
    exact ⟨rfl, rfl⟩
theorem mode_three {z : Int} (h : modeB z = true) : z = 0 ∨ z = 1 ∨ z = 2 := by
  rcases mode_cases z with h | h | h | h2
  · exact .inl h
  · exact .inr (.inl h)
  · exact .inr (.inr h)
  · rw [h] at h2; cases h2
set_option maxHeartbeats 1000000 in
theorem FitR_any (w : World) (a b : Int) : Calls Try.prog 21 #[.int .i64 a, .int .i64 b] w fun e w' => e = .returned (.bool (fitB a b)) ∧ w = w' := by
  obtain ⟨x, Hx⟩ : ∃ x, Hid (modeB a = x) := ⟨_, Lib.hid rfl⟩
  obtain ⟨y, Hy⟩ : ∃ x, Hid (modeB b = x) := ⟨_, Lib.hid rfl⟩
  obtain ⟨R, HR⟩ : ∃ x, Hid (fitB a b = x) := ⟨_, Lib.hid rfl⟩
  have HR2 := HR
  rw [fitB, Hx.out, Hy.out] at HR2
  rw [HR.out]
  go_enter Try.func21, Try.ntmps21
  go_wp2_with fail
  refine (IsR_any _ a).mono ?_
  rw [Hx.out]
  rintro e w1 ⟨rfl, rfl⟩
  go_wp2_with fail
  refine (IsR_any _ b).mono ?_
  rw [Hy.out]
  rintro e w1 ⟨rfl, rfl⟩
  cases x
  · go_wp2
    go_ret
    exact ⟨ret_bool HR2.out, rfl⟩
  · cases y
    · go_wp2
      go_ret
      exact ⟨ret_bool HR2.out, rfl⟩
    · rcases mode_three Hx.out with rfl | rfl | rfl
      · go_wp2
        go_ret
        exact ⟨ret_bool HR2.out, rfl⟩
      · rcases mode_three Hy.out with rfl | rfl | rfl
        · go_wp2
          go_ret
          exact ⟨ret_bool HR2.out, rfl⟩
        · go_wp2
          go_ret
          exact ⟨ret_bool HR2.out, rfl⟩
        · go_wp2
          go_ret
          exact ⟨ret_bool HR2.out, rfl⟩
      · rcases mode_three Hy.out with rfl | rfl | rfl
        · go_wp2
          go_ret
          exact ⟨ret_bool HR2.out, rfl⟩
        · go_wp2
          go_ret
          exact ⟨ret_bool HR2.out, rfl⟩
        · go_wp2
          go_ret
          exact ⟨ret_bool HR2.out, rfl⟩
end Go.Proofs.Ytbeoigkjlgimdaa
