/- What package mode tells of numbers. -/
import Derived.Test.YthpmodohfjjjcaaTell
namespace Go.Proofs.Ythpmodohfjjjcaa
open Go.RowKit

def tellN (z : Int) (l : List Int) : Nat := if okZ l then cntZ z l l.length else 0
theorem tellV_def (l : List Int) : tellV l = .tuple #[.agg #[.int .i64 (tellN 0 l : Nat), .int .i64 (tellN 1 l : Nat), .int .i64 (tellN 2 l : Nat)], .bool (okZ l)] := by
  unfold tellV tellN
  cases okZ l <;> rfl
def fitB (a b : Int) : Bool := modeB a && modeB b && (a == 0 || b == 0 || a == 1 && b == 1)
def covB (a b : Int) : Bool := modeB a && modeB b && decide (b ≤ a)
def maxM (a b : Int) : Int := if covB a b then a else if covB b a then b else 0
def restM (m : Int) : Int := if fitB 2 m then 2 else if fitB 1 m then 1 else 0
theorem mode_cases (z : Int) : z = 0 ∨ z = 1 ∨ z = 2 ∨ modeB z = false := by
  unfold modeB
  by_cases h0 : z = 0
  · exact .inl h0
  · by_cases h1 : z = 1
    · exact .inr (.inl h1)
    · by_cases h2 : z = 2
      · exact .inr (.inr (.inl h2))
      · simp [h0, h1, h2]
theorem ok_two (a b : Int) : okZ [a, b] = (modeB a && modeB b) := by simp [okZ]
theorem fit_two (a b : Int) : (decide (0 < (tellN 0 [a, b] : Int)) || ((tellN 1 [a, b] : Int) == 2)) = fitB a b := by
  rcases mode_cases a with rfl | rfl | rfl | ha
  · rcases mode_cases b with rfl | rfl | rfl | hb
    · decide
    · decide
    · decide
    · simp [fitB, tellN, ok_two, hb]
  · rcases mode_cases b with rfl | rfl | rfl | hb
    · decide
    · decide
    · decide
    · simp [fitB, tellN, ok_two, hb]
  · rcases mode_cases b with rfl | rfl | rfl | hb
    · decide
    · decide
    · decide
    · simp [fitB, tellN, ok_two, hb]
  · simp [fitB, tellN, ok_two, ha]
theorem Is_any (w : World) (z : Int) : Calls Try.prog 62 #[.int .i64 z] w fun e w' => e = .returned (.bool (modeB z)) ∧ Below w.heap.size w w' := by
  have Ho : Hid (okZ [z] = modeB z) := Lib.hid (by simp [okZ])
  obtain ⟨V, HV⟩ : ∃ V, Hid (tellV [z] = V) := ⟨_, Lib.hid rfl⟩
  have HV2 := Lib.hid (HV.out.symm.trans (tellV_def [z]))
  obtain ⟨x, Hx⟩ : ∃ x, Hid (tellN 0 [z] = x) := ⟨_, Lib.hid rfl⟩
  obtain ⟨y, Hy⟩ : ∃ x, Hid (tellN 1 [z] = x) := ⟨_, Lib.hid rfl⟩
  obtain ⟨t, Ht⟩ : ∃ x, Hid (tellN 2 [z] = x) := ⟨_, Lib.hid rfl⟩
  rw [Hx.out, Hy.out, Ht.out, Ho.out] at HV2
  go_enter Try.func62, Try.ntmps62
  go_wp2_with fail
  refine (tell_any _ _ 1 [z] rfl (by omega) (by simp) ?_).mono ?_
  · intro i m hm
    match i, hm with
    | 0, hm => simp at hm; subst hm; simp [go_sem]
  rw [HV.out, HV2.out]
  rintro e w1 ⟨rfl, hb⟩
  have Hb := Lib.hid (bnext (balloc (Below.refl _ _) _) hb)
  clear hb
  go_wp2
  go_ret
  exact ⟨rfl, balloc Hb.out _⟩
set_option maxHeartbeats 1000000 in
theorem Fit_any (w : World) (a b : Int) : Calls Try.prog 71 #[.int .i64 a, .int .i64 b] w fun e w' => e = .returned (.bool (fitB a b)) ∧ Below w.heap.size w w' := by
  obtain ⟨V, HV⟩ : ∃ V, Hid (tellV [a, b] = V) := ⟨_, Lib.hid rfl⟩
  have HV2 := Lib.hid (HV.out.symm.trans (tellV_def [a, b]))
  have Hf := Lib.hid (fit_two a b)
  obtain ⟨o, Ho⟩ : ∃ x, Hid (okZ [a, b] = x) := ⟨_, Lib.hid rfl⟩
  obtain ⟨x, Hx⟩ : ∃ x, Hid (tellN 0 [a, b] = x) := ⟨_, Lib.hid rfl⟩
  obtain ⟨y, Hy⟩ : ∃ x, Hid (tellN 1 [a, b] = x) := ⟨_, Lib.hid rfl⟩
  obtain ⟨t, Ht⟩ : ∃ x, Hid (tellN 2 [a, b] = x) := ⟨_, Lib.hid rfl⟩
  rw [Hx.out, Hy.out, Ht.out, Ho.out] at HV2
  rw [Hx.out, Hy.out] at Hf
  by_cases hx : 0 < x
  · have hx' : (0 : Int) < (x : Int) := by omega
    have Hr : Hid (fitB a b = true) := Lib.hid (by rw [← Hf.out]; simp [hx])
    rw [Hr.out]
    go_enter Try.func71, Try.ntmps71
    go_wp2_with fail
    refine (tell_any _ _ 2 [a, b] rfl (by omega) (by simp) ?_).mono ?_
    · intro i m hm
      match i, hm with
      | 0, hm => simp at hm; subst hm; simp [go_sem]
      | 1, hm => simp at hm; subst hm; simp [go_sem]
    rw [HV.out, HV2.out]
    rintro e w1 ⟨rfl, hb⟩
    have Hb := Lib.hid (bnext (balloc (Below.refl _ _) _) hb)
    clear hb
    go_wp2
    go_ret
    exact ⟨rfl, balloc Hb.out _⟩
  · have hx' : ¬ (0 : Int) < (x : Int) := by omega
    have Hr : Hid (fitB a b = ((y : Int) == 2)) := Lib.hid (by rw [← Hf.out]; simp [hx])
    rw [Hr.out]
    go_enter Try.func71, Try.ntmps71
    go_wp2_with fail
    refine (tell_any _ _ 2 [a, b] rfl (by omega) (by simp) ?_).mono ?_
    · intro i m hm
      match i, hm with
      | 0, hm => simp at hm; subst hm; simp [go_sem]
      | 1, hm => simp at hm; subst hm; simp [go_sem]
    rw [HV.out, HV2.out]
    rintro e w1 ⟨rfl, hb⟩
    have Hb := Lib.hid (bnext (balloc (Below.refl _ _) _) hb)
    clear hb
    go_wp2
    go_ret
    exact ⟨rfl, balloc Hb.out _⟩
set_option maxHeartbeats 1000000 in
theorem Covers_any (w : World) (a b : Int) : Calls Try.prog 43 #[.int .i64 a, .int .i64 b] w fun e w' => e = .returned (.bool (covB a b)) ∧ Below w.heap.size w w' := by
  obtain ⟨V, HV⟩ : ∃ V, Hid (tellV [a, b] = V) := ⟨_, Lib.hid rfl⟩
  have HV2 := Lib.hid (HV.out.symm.trans (tellV_def [a, b]))
  obtain ⟨o, Ho⟩ : ∃ x, Hid (okZ [a, b] = x) := ⟨_, Lib.hid rfl⟩
  obtain ⟨x, Hx⟩ : ∃ x, Hid (tellN 0 [a, b] = x) := ⟨_, Lib.hid rfl⟩
  obtain ⟨y, Hy⟩ : ∃ x, Hid (tellN 1 [a, b] = x) := ⟨_, Lib.hid rfl⟩
  obtain ⟨t, Ht⟩ : ∃ x, Hid (tellN 2 [a, b] = x) := ⟨_, Lib.hid rfl⟩
  have Hr : Hid (covB a b = (o && decide (b ≤ a))) := Lib.hid (by rw [← Ho.out, ok_two]; rfl)
  rw [Hx.out, Hy.out, Ht.out, Ho.out] at HV2
  rw [Hr.out]
  go_enter Try.func43, Try.ntmps43
  go_wp2_with fail
  refine (tell_any _ _ 2 [a, b] rfl (by omega) (by simp) ?_).mono ?_
  · intro i m hm
    match i, hm with
    | 0, hm => simp at hm; subst hm; simp [go_sem]
    | 1, hm => simp at hm; subst hm; simp [go_sem]
  rw [HV.out, HV2.out]
  rintro e w1 ⟨rfl, hb⟩
  have Hb := Lib.hid (bnext (balloc (Below.refl _ _) _) hb)
  clear hb
  cases o
  · go_wp2
    go_ret
    exact ⟨rfl, balloc Hb.out _⟩
  · go_wp2
    go_ret
    exact ⟨by simp, balloc Hb.out _⟩
theorem Max_any (w : World) (a b : Int) : Calls Try.prog 101 #[.int .i64 a, .int .i64 b] w fun e w' => e = .returned (.int .i64 (maxM a b)) ∧ Below w.heap.size w w' := by
  obtain ⟨x, Hx⟩ : ∃ x, Hid (covB a b = x) := ⟨_, Lib.hid rfl⟩
  obtain ⟨y, Hy⟩ : ∃ x, Hid (covB b a = x) := ⟨_, Lib.hid rfl⟩
  rw [maxM, Hx.out, Hy.out]
  go_enter Try.func101, Try.ntmps101
  go_wp2_with fail
  refine (Covers_any _ a b).mono ?_
  rw [Hx.out]
  rintro e w1 ⟨rfl, hb⟩
  have Hb := Lib.hid hb
  clear hb
  cases x
  · go_wp2_with fail
    refine (Covers_any _ b a).mono ?_
    rw [Hy.out]
    rintro e w2 ⟨rfl, hb⟩
    have Hb2 := Lib.hid (bnext Hb.out hb)
    clear hb
    cases y
    · go_wp2
      go_ret
      exact ⟨rfl, Hb2.out⟩
    · go_wp2
      go_ret
      exact ⟨rfl, Hb2.out⟩
  · go_wp2
    go_ret
    exact ⟨rfl, Hb.out⟩
end Go.Proofs.Ythpmodohfjjjcaa
