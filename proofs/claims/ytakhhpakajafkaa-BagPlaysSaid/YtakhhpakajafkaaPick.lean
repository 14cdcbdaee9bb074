/- Which of so many; a message of one link taken, doubled. -/
import Derived.Test.YtakhhpakajafkaaBagTo
namespace Go.Proofs.Ytakhhpakajafkaa
open Go.RowKit

/-- Which of n things x says. -/
def wh (x : Int) (n : Nat) : Nat := (if x < 0 then -(x + 1) else x).toNat % n
theorem wh_lt (x : Int) {n : Nat} (h : 0 < n) : wh x n < n := Nat.mod_lt _ h
theorem wh_nat (i n : Nat) : wh i n = i % n := by unfold wh; rw [if_neg (by omega), Int.toNat_natCast]
theorem wh_pos {x : Int} (h : 0 ≤ x) (n : Nat) : x % (n : Int) = ((wh x n : Nat) : Int) := by
  unfold wh
  rw [if_neg (by omega)]
  obtain ⟨k, rfl⟩ := Int.eq_ofNat_of_zero_le h
  simp
theorem wh_neg {x : Int} (h : x < 0) (n : Nat) : -((x + 1).tmod (n : Int)) = ((wh x n : Nat) : Int) := by
  rw [← Int.neg_tmod, Int.tmod_eq_emod_of_nonneg (by omega)]
  unfold wh
  rw [if_pos h]
  obtain ⟨k, hk⟩ := Int.eq_ofNat_of_zero_le (show 0 ≤ -(x + 1) by omega)
  rw [hk]
  simp
/-- What stands at a place. -/
def nth (l : List (List UInt8)) (p : Nat) : List UInt8 := l.getD p []
theorem nth_get {l : List (List UInt8)} {p : Nat} (h : p < l.length) : nth l p = l[p] := by simp [nth, h]
theorem wf_bounds {n : Int} (h : (Lit.int .i64 n).wf = true) : -9223372036854775808 ≤ n ∧ n ≤ 9223372036854775807 := by
  simpa [Lit.wf, IntKind.min, IntKind.max, IntKind.signed, IntKind.bits] using h
/-- What doubling leaves. -/
def dblS (s : NS) (k p : Nat) : NS := if (s k).length < 200 then s.put k (s k ++ [nth (s k) p]) else s
section
variable {w : World} {b : Nat} {ρ : Nat → Role} {s : NS} {bv : Nat → Value}
theorem take_nth (h : Nt w b ρ s bv) {k : Nat} (hk : k < 64) {p : Nat} (hp : p < (s k).length) :
    Calls Try.prog 32 #[.pointer (some ⟨b, k, none⟩), .int .i64 (p : Int)] w (Did w b ρ (s.put k ((s k).eraseIdx p)) (.string (str (nth (s k) p)))) := by
  rw [nth_get hp]; exact (take_yes h hk hp).mono fun _ _ h => h.1
theorem pickS_none (x : Int) (v : Value) (w : World) :
    Calls Try.prog 30 #[.int .i64 x, .int .i64 0, v] w fun e w' => e = .returned (.tuple #[.string (str []), .bool false]) ∧ w = w' := by
  go_enter Try.func30, Try.ntmps30
  go_wp2
  go_ret2
  exact ⟨rfl, rfl⟩
theorem pickS_some (h : Nt w b ρ s bv) {k : Nat} (hk : k < 64) {x : Int} (hx : (Lit.int .i64 x).wf = true) (h0 : 0 < (s k).length) :
    Calls Try.prog 30 #[.int .i64 x, .int .i64 ((s k).length : Int), .func (.func 32) #[.pointer (some ⟨b, k, none⟩)] #[]] w
      (Did w b ρ (s.put k ((s k).eraseIdx (wh x (s k).length))) (.tuple #[.string (str (nth (s k) (wh x (s k).length))), .bool true])) := by
  have hm := h.most k
  have hne : (((s k).length : Int) == 0) = false := beq_no (by omega)
  obtain ⟨hw1, hw2⟩ := wf_bounds hx
  have hlt := wh_lt x h0
  have Hh := Lib.hid h
  by_cases hneg : x < 0
  · have e1 := wh_neg hneg (s k).length
    have hz : -9223372036854775808 ≤ x + 1 := by omega
    obtain ⟨n, Hn⟩ : ∃ n, Hid (wh x (s k).length = n) := ⟨_, Lib.hid rfl⟩
    rw [Hn.out] at e1 hlt ⊢
    clear h
    go_enter Try.func30, Try.ntmps30
    go_wp2_with fail
    refine (take_nth Hh.out hk hlt).mono ?_
    rintro e w2 ⟨rfl, hD⟩
    go_wp2
    go_ret2
    exact ⟨rfl, hD⟩
  · have e1 := wh_pos (show 0 ≤ x by omega) (s k).length
    obtain ⟨n, Hn⟩ : ∃ n, Hid (wh x (s k).length = n) := ⟨_, Lib.hid rfl⟩
    rw [Hn.out] at e1 hlt ⊢
    clear h
    go_enter Try.func30, Try.ntmps30
    go_wp2_with fail
    refine (take_nth Hh.out hk hlt).mono ?_
    rintro e w2 ⟨rfl, hD⟩
    go_wp2
    go_ret2
    exact ⟨rfl, hD⟩
theorem double_nth (h : Nt w b ρ s bv) {k : Nat} (hk : LinkAt k) {p : Nat} (hp : p < (s k).length) :
    Calls Try.prog 40 #[.pointer (some ⟨b, k, none⟩), .int .i64 (p : Int)] w (Did w b ρ (dblS s k p) (.bool (decide ((s k).length < 200)))) := by
  unfold dblS
  by_cases hf : (s k).length < 200
  · rw [nth_get hp, if_pos hf, decide_eq_true hf]; exact double_yes h hk hp hf
  · rw [if_neg hf, decide_eq_false hf]
    refine (double_no h hk.1 hp (by omega)).mono ?_
    rintro e w2 ⟨rfl, rfl⟩
    exact ⟨rfl, ρ, ⟨bv, h⟩, Step.refl _ _⟩
theorem pickB_none (x : Int) (v : Value) (w : World) :
    Calls Try.prog 39 #[.int .i64 x, .int .i64 0, v] w fun e w' => e = .returned (.tuple #[.bool false, .bool false]) ∧ w = w' := by
  go_enter Try.func39, Try.ntmps39
  go_wp2
  go_ret2
  exact ⟨rfl, rfl⟩
theorem pickB_some (h : Nt w b ρ s bv) {k : Nat} (hk : LinkAt k) {x : Int} (hx : (Lit.int .i64 x).wf = true) (h0 : 0 < (s k).length) :
    Calls Try.prog 39 #[.int .i64 x, .int .i64 ((s k).length : Int), .func (.func 40) #[.pointer (some ⟨b, k, none⟩)] #[]] w
      (Did w b ρ (dblS s k (wh x (s k).length)) (.tuple #[.bool (decide ((s k).length < 200)), .bool true])) := by
  have hm := h.most k
  have hne : (((s k).length : Int) == 0) = false := beq_no (by omega)
  obtain ⟨hw1, hw2⟩ := wf_bounds hx
  have hlt := wh_lt x h0
  have Hh := Lib.hid h
  have Hk := Lib.hid hk
  obtain ⟨B, HB⟩ : ∃ B, Hid (decide ((s k).length < 200) = B) := ⟨_, Lib.hid rfl⟩
  rw [HB.out]
  by_cases hneg : x < 0
  · have e1 := wh_neg hneg (s k).length
    have hz : -9223372036854775808 ≤ x + 1 := by omega
    obtain ⟨n, Hn⟩ : ∃ n, Hid (wh x (s k).length = n) := ⟨_, Lib.hid rfl⟩
    rw [Hn.out] at e1 hlt ⊢
    clear h hk
    go_enter Try.func39, Try.ntmps39
    go_wp2_with fail
    refine (double_nth Hh.out Hk.out hlt).mono ?_
    rw [HB.out]
    rintro e w2 ⟨rfl, hD⟩
    go_wp2
    go_ret2
    exact ⟨rfl, hD⟩
  · have e1 := wh_pos (show 0 ≤ x by omega) (s k).length
    obtain ⟨n, Hn⟩ : ∃ n, Hid (wh x (s k).length = n) := ⟨_, Lib.hid rfl⟩
    rw [Hn.out] at e1 hlt ⊢
    clear h hk
    go_enter Try.func39, Try.ntmps39
    go_wp2_with fail
    refine (double_nth Hh.out Hk.out hlt).mono ?_
    rw [HB.out]
    rintro e w2 ⟨rfl, hD⟩
    go_wp2
    go_ret2
    exact ⟨rfl, hD⟩
end
end Go.Proofs.Ytakhhpakajafkaa
