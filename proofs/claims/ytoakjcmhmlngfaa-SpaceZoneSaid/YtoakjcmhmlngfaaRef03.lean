
/- What each function of the document's answer for layer 3 gives, at this translation; the statements' own helpers; the chapter's examples. -/
import Derived.Test.YtoakjcmhmlngfaaEach
namespace Go.Proofs.Ytoakjcmhmlngfaa
open Go.RowKit

theorem XHas_in (l : List UInt8) (hl : l.length ≤ 100000) (i : Nat) (h : i < 8 * l.length) (w : World) :
    Calls Try.prog 42 #[.string (str l), .int .i64 i] w fun e w' => e = .returned (.bool (Bm.bit l i)) ∧ w = w' := by
  have h8 : i / 8 < l.length := by omega
  have Hb := Lib.hid (Bm.bit_in h)
  obtain ⟨n, Hn⟩ : ∃ n, Hid (l[i / 8].toNat = n) := ⟨_, Lib.hid rfl⟩
  have hn256 : n < 256 := by rw [← Hn.out]; exact UInt8.toNat_lt _
  have hi8 : ((i % 8 : Nat) : Int) = (i : Int) % 8 := by omega
  have Hi8 := Lib.hid hi8
  clear hi8
  go_enter Try.func42, Try.ntmps42
  go_wp2
  rw [Hn.out, IntWalk.wrap64_in (n : Int) ⟨by omega, by omega⟩]
  go_loop [5, 6] (fun b k => ∃ j : Nat, j ≤ i % 8 ∧ k = .int .i64 j ∧ b = .int .i64 ((n / 2 ^ j : Nat) : Int)) (fun _ k => i % 8 - (intOf k).toNat)
  case atStart => exact ⟨0, Nat.zero_le _, rfl, by simp⟩
  case round =>
    obtain ⟨j, hj, rfl, rfl⟩ := hrel
    have hle : n / 2 ^ j ≤ n := Nat.div_le_self _ _
    obtain ⟨m, Hm⟩ : ∃ m, Hid (n / 2 ^ j = m) := ⟨_, Lib.hid rfl⟩
    rw [Hm.out] at hle ⊢
    by_cases hlt : j < i % 8
    · have hlt2 : (j : Int) < (i : Int) % 8 := by omega
      go_wp2
      go_round
      case rel =>
        refine ⟨j + 1, by omega, by go_num, ?_⟩
        rw [Nat.pow_succ, ← Nat.div_div_eq_div_mul, Hm.out]
        go_num
      case measure => simp [intOf]; omega
    · have hlt2 : ¬ ((j : Int) < (i : Int) % 8) := by omega
      go_wp2
      go_ret
      refine ⟨ret_bool ?_, rfl⟩
      have e : j = i % 8 := by omega
      rw [Hb.out, Hn.out, Nat.testBit_eq_decide_div_mod_eq, ← e, Hm.out, Bool.eq_iff_iff]
      simp only [beq_iff_eq, decide_eq_true_eq]
      omega
theorem XHas_out (l : List UInt8) (i : Int) (hi : i ≤ 9223372036854775807) (h : i < 0 ∨ 8 * l.length ≤ i) (w : World) :
    Calls Try.prog 42 #[.string (str l), .int .i64 i] w fun e w' => e = .returned (.bool false) ∧ w = w' := by
  by_cases h0 : i < 0
  · clear h
    go_enter Try.func42, Try.ntmps42
    go_wp2
    go_ret
    exact ⟨rfl, rfl⟩
  · have h1 : (l.length : Int) ≤ i / 8 := by omega
    have h2 : 0 ≤ i := by omega
    clear h
    go_enter Try.func42, Try.ntmps42
    go_wp2
    go_ret
    exact ⟨rfl, rfl⟩
theorem XHas_any (l : List UInt8) (hl : l.length ≤ 100000) (i : Int) (hi : i ≤ 9223372036854775807) (w : World) :
    Calls Try.prog 42 #[.string (str l), .int .i64 i] w fun e w' => e = .returned (.bool (Bm.bitI l i)) ∧ w = w' := by
  by_cases h0 : 0 ≤ i
  · obtain ⟨k, rfl⟩ := Int.eq_ofNat_of_zero_le h0
    by_cases h1 : k < 8 * l.length
    · rw [Bm.bitI_nat]
      exact XHas_in l hl k h1 w
    · rw [Bm.bitI_out (by omega)]
      exact XHas_out l k hi (by omega) w
  · rw [Bm.bitI_neg (by omega)]
    exact XHas_out l i hi (by omega) w
theorem XNew_any (n : Int) (w : World) :
    Calls Try.prog 34 #[.int .i64 n] w fun e w' => e = .returned (.string (str (zeros n))) ∧ w = w' := by
  have Hz := Lib.hid (show zeros n = List.replicate (size n) 0 from rfl)
  have hs : ∀ k : Nat, k < size n ↔ 8 * (k : Int) < n ∧ 8 * (k : Int) < 4000 := by intro k; unfold size; omega
  have hs5 := size_le n
  obtain ⟨z, Hs⟩ : ∃ z, Hid (size n = z) := ⟨_, Lib.hid rfl⟩
  rw [Hs.out] at Hz hs hs5
  have Hsz := Lib.hid hs
  clear hs
  go_enter Try.func34, Try.ntmps34
  go_wp2
  go_loop [3, 4] (fun s i => ∃ k : Nat, k ≤ z ∧ i = .int .i64 (8 * (k : Int)) ∧ s = .string (str (List.replicate k 0))) (fun _ i => 4008 - (intOf i).toNat)
  case atStart => exact ⟨0, Nat.zero_le _, rfl, rfl⟩
  case round =>
    obtain ⟨k, hk, rfl, rfl⟩ := hrel
    obtain ⟨r, Hr⟩ : ∃ r, Hid (List.replicate k (0 : UInt8) = r) := ⟨_, Lib.hid rfl⟩
    have hlen : r.length ≤ 500 := by rw [← Hr.out, List.length_replicate]; omega
    rw [Hr.out]
    by_cases hlt : k < z
    · obtain ⟨h1, h2⟩ := (Hsz.out k).1 hlt
      go_wp2
      go_round
      case rel =>
        refine ⟨k + 1, by omega, by go_num, ?_⟩
        rw [List.replicate_succ', Hr.out]
        rfl
      case measure => simp [intOf]; omega
    · have h3 : ¬ (8 * (k : Int) < n ∧ 8 * (k : Int) < 4000) := fun h => hlt ((Hsz.out k).2 h)
      have E := Lib.hid (show k = z by omega)
      by_cases h4 : 8 * (k : Int) < n
      · have h5 : ¬ (8 * (k : Int) < 4000) := fun h => h3 ⟨h4, h⟩
        clear h3
        go_wp2
        go_ret
        exact ⟨ret_str (by rw [Hz.out, ← Hr.out, E.out]), rfl⟩
      · clear h3
        go_wp2
        go_ret
        exact ⟨ret_str (by rw [Hz.out, ← Hr.out, E.out]), rfl⟩
end Go.Proofs.Ytoakjcmhmlngfaa
