/- What the document tells of modes. -/
import Derived.Test.YtfmbhpfggkmdoaaStrong
namespace Go.Proofs.Ytfmbhpfggkmdoaa
open Go.RowKit

theorem IsR_any (w : World) (z : Int) : Calls Try.prog 11 #[.int .i64 z] w fun e w' => e = .returned (.bool (modeB z)) ∧ w = w' := by
  rcases mode_cases z with rfl | rfl | rfl | hn
  · go_enter Try.func11, Try.ntmps11
    go_wp2
    go_ret
    exact ⟨rfl, rfl⟩
  · go_enter Try.func11, Try.ntmps11
    go_wp2
    go_ret
    exact ⟨rfl, rfl⟩
  · go_enter Try.func11, Try.ntmps11
    go_wp2
    go_ret
    exact ⟨rfl, rfl⟩
  · rw [hn]
    simp only [modeB, Bool.or_eq_false_iff] at hn
    obtain ⟨⟨h0, h1⟩, h2⟩ := hn
    go_enter Try.func11, Try.ntmps11
    go_wp2
    go_ret
    exact ⟨rfl, rfl⟩
theorem mode_three {z : Int} (h : modeB z = true) : z = 0 ∨ z = 1 ∨ z = 2 := by
  rcases mode_cases z with h | h | h | h2
  · exact .inl h
  · exact .inr (.inl h)
  · exact .inr (.inr h)
  · rw [h] at h2; cases h2
set_option maxHeartbeats 1000000 in
theorem FitR_any (w : World) (a b : Int) : Calls Try.prog 13 #[.int .i64 a, .int .i64 b] w fun e w' => e = .returned (.bool (fitB a b)) ∧ w = w' := by
  obtain ⟨x, Hx⟩ : ∃ x, Hid (modeB a = x) := ⟨_, Lib.hid rfl⟩
  obtain ⟨y, Hy⟩ : ∃ x, Hid (modeB b = x) := ⟨_, Lib.hid rfl⟩
  obtain ⟨R, HR⟩ : ∃ x, Hid (fitB a b = x) := ⟨_, Lib.hid rfl⟩
  have HR2 := HR
  rw [fitB, Hx.out, Hy.out] at HR2
  rw [HR.out]
  go_enter Try.func13, Try.ntmps13
  go_wp2_with fail
  refine (IsR_any _ a).mono ?_
  rw [Hx.out]
  rintro e w1 ⟨rfl, rfl⟩
  go_wp2_with fail
  refine (IsR_any _ b).mono ?_
  rw [Hy.out]
  rintro e w1 ⟨rfl, rfl⟩
  cases x
  · go_wp2
    go_ret
    exact ⟨ret_bool HR2.out, rfl⟩
  · cases y
    · go_wp2
      go_ret
      exact ⟨ret_bool HR2.out, rfl⟩
    · rcases mode_three Hx.out with rfl | rfl | rfl
      · go_wp2
        go_ret
        exact ⟨ret_bool HR2.out, rfl⟩
      · rcases mode_three Hy.out with rfl | rfl | rfl
        · go_wp2
          go_ret
          exact ⟨ret_bool HR2.out, rfl⟩
        · go_wp2
          go_ret
          exact ⟨ret_bool HR2.out, rfl⟩
        · go_wp2
          go_ret
          exact ⟨ret_bool HR2.out, rfl⟩
      · rcases mode_three Hy.out with rfl | rfl | rfl
        · go_wp2
          go_ret
          exact ⟨ret_bool HR2.out, rfl⟩
        · go_wp2
          go_ret
          exact ⟨ret_bool HR2.out, rfl⟩
        · go_wp2
          go_ret
          exact ⟨ret_bool HR2.out, rfl⟩
theorem CoversR_any (w : World) (a b : Int) : Calls Try.prog 15 #[.int .i64 a, .int .i64 b] w fun e w' => e = .returned (.bool (covB a b)) ∧ w = w' := by
  obtain ⟨x, Hx⟩ : ∃ x, Hid (modeB a = x) := ⟨_, Lib.hid rfl⟩
  obtain ⟨y, Hy⟩ : ∃ x, Hid (modeB b = x) := ⟨_, Lib.hid rfl⟩
  obtain ⟨R, HR⟩ : ∃ x, Hid (covB a b = x) := ⟨_, Lib.hid rfl⟩
  have HR2 := HR
  rw [covB, Hx.out, Hy.out] at HR2
  rw [HR.out]
  go_enter Try.func15, Try.ntmps15
  go_wp2_with fail
  refine (IsR_any _ a).mono ?_
  rw [Hx.out]
  rintro e w1 ⟨rfl, rfl⟩
  go_wp2_with fail
  refine (IsR_any _ b).mono ?_
  rw [Hy.out]
  rintro e w1 ⟨rfl, rfl⟩
  cases x
  · go_wp2
    go_ret
    exact ⟨ret_bool HR2.out, rfl⟩
  · cases y
    · go_wp2
      go_ret
      exact ⟨ret_bool HR2.out, rfl⟩
    · go_wp2
      go_ret
      exact ⟨ret_bool HR2.out, rfl⟩
theorem max_plain (a b : Int) : maxM a b = if modeB a && modeB b then (if b < a then a else b) else 0 := by
  unfold maxM covB
  cases modeB a <;> cases modeB b <;> simp
  rcases Int.lt_trichotomy a b with h | h | h
  · rw [if_neg (by omega), if_pos (by omega), if_neg (by omega)]
  · subst h; simp
  · rw [if_pos (by omega), if_pos h]
theorem MaxR_any (w : World) (a b : Int) : Calls Try.prog 17 #[.int .i64 a, .int .i64 b] w fun e w' => e = .returned (.int .i64 (maxM a b)) ∧ w = w' := by
  obtain ⟨x, Hx⟩ : ∃ x, Hid (modeB a = x) := ⟨_, Lib.hid rfl⟩
  obtain ⟨y, Hy⟩ : ∃ x, Hid (modeB b = x) := ⟨_, Lib.hid rfl⟩
  obtain ⟨R, HR⟩ : ∃ x, Hid (maxM a b = x) := ⟨_, Lib.hid rfl⟩
  have HR2 := HR
  rw [max_plain, Hx.out, Hy.out] at HR2
  rw [HR.out]
  go_enter Try.func17, Try.ntmps17
  go_wp2_with fail
  refine (IsR_any _ a).mono ?_
  rw [Hx.out]
  rintro e w1 ⟨rfl, rfl⟩
  go_wp2_with fail
  refine (IsR_any _ b).mono ?_
  rw [Hy.out]
  rintro e w1 ⟨rfl, rfl⟩
  cases x
  · go_wp2
    go_ret
    exact ⟨ret_int HR2.out, rfl⟩
  · cases y
    · go_wp2
      go_ret
      exact ⟨ret_int HR2.out, rfl⟩
    · by_cases hlt : b < a
      · have Hr : Hid (R = a) := Lib.hid (by rw [← HR2.out]; simp [hlt])
        go_wp2
        go_ret
        exact ⟨ret_int Hr.out.symm, rfl⟩
      · have Hr : Hid (R = b) := Lib.hid (by rw [← HR2.out]; simp [hlt])
        go_wp2
        go_ret
        exact ⟨ret_int Hr.out.symm, rfl⟩
theorem NameR_any (w : World) (m : Int) : Calls Try.prog 21 #[.int .i64 m] w fun e w' => e = .returned (.string (str (nameM m))) ∧ w = w' := by
  by_cases h0 : m = 0
  · subst h0
    go_enter Try.func21, Try.ntmps21
    go_wp2
    go_ret
    exact ⟨rfl, rfl⟩
  · have h0' := beq_no h0
    by_cases h1 : m = 1
    · subst h1
      go_enter Try.func21, Try.ntmps21
      go_wp2
      go_ret
      exact ⟨rfl, rfl⟩
    · have h1' := beq_no h1
      by_cases h2 : m = 2
      · subst h2
        go_enter Try.func21, Try.ntmps21
        go_wp2
        go_ret
        exact ⟨rfl, rfl⟩
      · have h2' := beq_no h2
        have Hr : Hid (nameM m = []) := Lib.hid (by simp [nameM, h0, h1, h2])
        rw [Hr.out]
        clear h0 h1 h2
        go_enter Try.func21, Try.ntmps21
        go_wp2
        go_ret
        exact ⟨rfl, rfl⟩
/-- The best so far. -/
def bestM (m : Int) : Nat → Int
  | 0 => 0
  | k + 1 => if fitB m (k : Int) then (k : Int) else bestM m k
theorem best_three (m : Int) : bestM m 3 = restM m := by
  rcases mode_cases m with rfl | rfl | rfl | h
  · rfl
  · rfl
  · rfl
  · simp [bestM, restM, fitB, h]
theorem rest_none {m : Int} (h : modeB m = false) : restM m = 0 := by simp [restM, fitB, h]
theorem RestR_any (w : World) (m : Int) : Calls Try.prog 19 #[.int .i64 m] w fun e w' => e = .returned (.int .i64 (restM m)) ∧ w = w' := by
  obtain ⟨x, Hx⟩ : ∃ x, Hid (modeB m = x) := ⟨_, Lib.hid rfl⟩
  obtain ⟨R, HR⟩ : ∃ x, Hid (restM m = x) := ⟨_, Lib.hid rfl⟩
  rw [HR.out]
  go_enter Try.func19, Try.ntmps19
  go_wp2_with fail
  refine (IsR_any _ m).mono ?_
  rw [Hx.out]
  rintro e w1 ⟨rfl, rfl⟩
  cases x
  · have HR2 : Hid (R = 0) := Lib.hid (by rw [← HR.out]; exact rest_none Hx.out)
    go_wp2
    go_ret
    exact ⟨ret_int HR2.out.symm, rfl⟩
  · go_wp2
    go_loopw [4, 5, 6] (fun b i _ wr => ∃ k : Nat, i = .int .i64 (k : Int) ∧ k ≤ 3 ∧ b = .int .i64 (bestM m k) ∧ w = wr) (fun _ i _ _ => 3 - (intOf i).toNat)
    case atStart => exact ⟨0, rfl, by omega, rfl, rfl⟩
    case round =>
      obtain ⟨k, rfl, hk, rfl, hww⟩ := hrel
      have hww2 := hww.symm
      clear hww
      subst hww2
      by_cases hlt : k < 3
      · have hlt' : (k : Int) < 3 := by omega
        have Hbe : Hid (bestM m (k + 1) = if fitB m (k : Int) then (k : Int) else bestM m k) := Lib.hid rfl
        obtain ⟨f, Hf⟩ : ∃ x, Hid (fitB m (k : Int) = x) := ⟨_, Lib.hid rfl⟩
        obtain ⟨B, HB⟩ : ∃ x, Hid (bestM m k = x) := ⟨_, Lib.hid rfl⟩
        rw [Hf.out, HB.out] at Hbe
        rw [HB.out]
        go_wp2_with fail
        refine (FitR_any _ m (k : Int)).mono ?_
        rw [Hf.out]
        rintro e w1 ⟨rfl, rfl⟩
        cases f
        · go_wp2
          go_roundw
          case rel => exact ⟨k + 1, by go_num, by omega, by rw [Hbe.out]; rfl, by trivial⟩
          case measure => simp [intOf]; omega
        · go_wp2
          go_roundw
          case rel => exact ⟨k + 1, by go_num, by omega, by rw [Hbe.out]; rfl, by trivial⟩
          case measure => simp [intOf]; omega
      · obtain rfl : k = 3 := by omega
        have HR2 : Hid (bestM m 3 = R) := Lib.hid ((best_three m).trans HR.out)
        rw [HR2.out]
        go_wp2
        go_ret
        exact ⟨rfl, rfl⟩
end Go.Proofs.Ytfmbhpfggkmdoaa
