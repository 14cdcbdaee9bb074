/- What each function of package bitmap gives, at this translation. -/
import Derived.Test.YtoakjcmhmlngfaaChecked
import Derived.Test.YtoakjcmhmlngfaaClose
import Derived.Test.YtoakjcmhmlngfaaBitMath
import Derived.Deep.LoopGhost
namespace Go.Proofs.Ytoakjcmhmlngfaa
open Go.RowKit

theorem Len_any (l : List UInt8) (hl : l.length ≤ 100000) (w : World) :
    Calls Try.prog 43 #[.string (str l)] w fun e w' => e = .returned (.int .i64 (8 * (l.length : Int))) ∧ w = w' := by
  go_enter Try.func43, Try.ntmps43
  go_wp2
  go_ret
  exact ⟨rfl, rfl⟩
/-- Bytes in the walk's own spelling. -/
theorem and_one (m : Nat) (hm : m < 256) : bits .and .u8 ((m : Nat) : Int) 1 = ((m % 2 : Nat) : Int) := by
  show IntKind.u8.wrap ((BitVec.ofInt 8 ((m : Nat) : Int) &&& BitVec.ofInt 8 1).toNat : Int) = _
  have e1 : (BitVec.ofInt 8 1) = 1#8 := by decide
  have e2 : (BitVec.ofInt 8 ((m : Nat) : Int)) = BitVec.ofNat 8 m := by apply BitVec.eq_of_toNat_eq; simp
  rw [e1, e2, BitVec.toNat_and, BitVec.toNat_ofNat, BitVec.toNat_ofNat, Nat.mod_eq_of_lt (a := m) (by omega), show 1 % 2 ^ 8 = 1 from rfl, Nat.and_one_is_mod, IntKind.wrap_u8]
  omega
theorem shr_nat (n k : Nat) : ((n : Nat) : Int) / (2 : Int) ^ k = ((n / 2 ^ k : Nat) : Int) := by simp
theorem bit_val (n k : Nat) (hn : n < 256) : (bits .and .u8 (((n : Nat) : Int) / (2 : Int) ^ k) (1 : Int) == (1 : Int)) = n.testBit k := by
  have h : n / 2 ^ k ≤ n := Nat.div_le_self _ _
  rw [shr_nat, and_one _ (by omega), Nat.testBit_eq_decide_div_mod_eq, Bool.eq_iff_iff]
  simp only [beq_iff_eq, decide_eq_true_eq]
  omega
theorem u8_xor (a b : UInt8) : bits .xor .u8 ((a.toNat : Nat) : Int) ((b.toNat : Nat) : Int) = (((a ^^^ b).toNat : Nat) : Int) := by
  have ha := a.toNat_lt
  have hb := b.toNat_lt
  show IntKind.u8.wrap ((BitVec.ofInt 8 ((a.toNat : Nat) : Int) ^^^ BitVec.ofInt 8 ((b.toNat : Nat) : Int)).toNat : Int) = _
  have e : ∀ x : UInt8, BitVec.ofInt 8 ((x.toNat : Nat) : Int) = x.toBitVec := by
    intro x
    apply BitVec.eq_of_toNat_eq
    have := x.toNat_lt
    simp
  rw [e, e]
  have h1 : (a.toBitVec ^^^ b.toBitVec).toNat = (a ^^^ b).toNat := rfl
  rw [h1]
  have := (a ^^^ b).toNat_lt
  rw [IntKind.wrap_u8]
  omega
theorem there_yes (l : List UInt8) (hl : l.length ≤ 100000) (i : Nat) (h : i < 8 * l.length) (w : World) :
    Calls Try.prog 36 #[.string (str l), .int .i64 i] w fun e w' => e = .returned (.bool true) ∧ w = w' := by
  go_enter Try.func36, Try.ntmps36
  go_wp2_with fail
  refine (Len_any _ hl _).mono ?_
  rintro e w1 ⟨rfl, rfl⟩
  go_wp2
  go_ret
  exact ⟨ret_bool (by simp; omega), rfl⟩
theorem there_no (l : List UInt8) (hl : l.length ≤ 100000) (i : Int) (h : i < 0 ∨ 8 * l.length ≤ i) (w : World) :
    Calls Try.prog 36 #[.string (str l), .int .i64 i] w fun e w' => e = .returned (.bool false) ∧ w = w' := by
  by_cases h0 : 0 ≤ i
  · have h1 : 8 * (l.length : Int) ≤ i := by omega
    clear h
    go_enter Try.func36, Try.ntmps36
    go_wp2_with fail
    refine (Len_any _ hl _).mono ?_
    rintro e w1 ⟨rfl, rfl⟩
    go_wp2
    go_ret
    exact ⟨ret_bool (by simp; omega), rfl⟩
  · clear h
    go_enter Try.func36, Try.ntmps36
    go_wp2
    go_ret
    exact ⟨rfl, rfl⟩
theorem Has_in (l : List UInt8) (hl : l.length ≤ 100000) (i : Nat) (h : i < 8 * l.length) (w : World) :
    Calls Try.prog 23 #[.string (str l), .int .i64 i] w fun e w' => e = .returned (.bool (Bm.bit l i)) ∧ w = w' := by
  have h8 : i / 8 < l.length := by omega
  go_enter Try.func23, Try.ntmps23
  go_wp2_with fail
  refine (there_yes _ hl _ h _).mono ?_
  rintro e w1 ⟨rfl, rfl⟩
  go_wp2
  go_ret
  exact ⟨ret_bool (by rw [bit_val _ _ (UInt8.toNat_lt _), Bm.bit_in h]), rfl⟩
theorem Has_out (l : List UInt8) (hl : l.length ≤ 100000) (i : Int) (h : i < 0 ∨ 8 * l.length ≤ i) (w : World) :
    Calls Try.prog 23 #[.string (str l), .int .i64 i] w fun e w' => e = .returned (.bool false) ∧ w = w' := by
  go_enter Try.func23, Try.ntmps23
  go_wp2_with fail
  refine (there_no _ hl _ h _).mono ?_
  rintro e w1 ⟨rfl, rfl⟩
  go_wp2
  go_ret
  exact ⟨rfl, rfl⟩
theorem Has_any (l : List UInt8) (hl : l.length ≤ 100000) (i : Int) (w : World) :
    Calls Try.prog 23 #[.string (str l), .int .i64 i] w fun e w' => e = .returned (.bool (Bm.bitI l i)) ∧ w = w' := by
  by_cases h0 : 0 ≤ i
  · obtain ⟨k, rfl⟩ := Int.eq_ofNat_of_zero_le h0
    by_cases h1 : k < 8 * l.length
    · rw [Bm.bitI_nat]
      exact Has_in l hl k h1 w
    · rw [Bm.bitI_out (by omega)]
      exact Has_out l hl k (by omega) w
  · rw [Bm.bitI_neg (by omega)]
    exact Has_out l hl i (by omega) w
/-- What a search turns bytes by. -/
def turn (t : Bool) : UInt8 := if t then 0 else 255
theorem turn_bit (b : UInt8) (t : Bool) (k : Nat) (hk : k < 8) : (b ^^^ turn t).toNat.testBit k = (b.toNat.testBit k == t) := by
  rw [UInt8.toNat_xor, Nat.testBit_xor]
  cases t
  · have e : (turn false).toNat.testBit k = true := by
      have : ∀ k, k < 8 → (turn false).toNat.testBit k = true := by decide
      exact this k hk
    rw [e]; cases b.toNat.testBit k <;> rfl
  · have e : (turn true).toNat.testBit k = false := by
      have : ∀ k, k < 8 → (turn true).toNat.testBit k = false := by decide
      exact this k hk
    rw [e]; cases b.toNat.testBit k <;> rfl
theorem div_zero_bits {n k j : Nat} (h : n / 2 ^ k = 0) (hj : k ≤ j) : n.testBit j = false := by
  have h2 : (n / 2 ^ k).testBit (j - k) = n.testBit (j - k + k) := Nat.testBit_div_two_pow n (j - k)
  rw [h] at h2
  rw [show j = j - k + k by omega, ← h2]
  simp
theorem ne_of_beq {a b : Bool} (h : (a == b) = false) : a ≠ b := by rintro rfl; simp at h
theorem next_free (l : List UInt8) (hl : l.length ≤ 100000) (i : Nat) (hi : i ≤ 9223372036854775807) (w : World) :
    Calls Try.prog 37 #[.string (str l), .int .i64 i, .bool false] w fun e w' => e = .returned (.int .i64 (Bm.next l i false)) ∧ w = w' := by
  have Hnone := Lib.hid (@Bm.next_none l i false)
  have Hsome := Lib.hid (@Bm.next_some l i · false)
  obtain ⟨N, HN⟩ : ∃ N, Hid (Bm.next l i false = N) := ⟨_, Lib.hid rfl⟩
  rw [HN.out]
  obtain ⟨tt, Htt⟩ : ∃ tt, Hid (false = tt) := ⟨_, Lib.hid rfl⟩
  go_enter Try.func37, Try.ntmps37
  go_wp2
  go_step3
  go_wp2
  go_step3
  go_wp2
  rw [show (i : Int) / 8 = ((i / 8 : Nat) : Int) by omega]
  go_loopg [8] l.length (fun g s8 wx => ∃ a : Nat, s8 = .int .i64 a ∧ l.length ≤ a + g ∧ i / 8 ≤ a ∧ w = wx ∧ Hid (∀ j, i ≤ j → j < 8 * a → Bm.bit l j ≠ tt))
  case atStart => exact ⟨i / 8, rfl, by omega, Nat.le_refl _, rfl, Lib.hid fun j h1 h2 => by omega⟩
  case round =>
    obtain ⟨a, rfl, hg, ha, rfl, Ha⟩ := hrel
    by_cases hlt : a < l.length
    · obtain ⟨g, rfl⟩ : ∃ g, gk = g + 1 := ⟨gk - 1, by omega⟩
      have hbitx : ∀ b, b < 8 → (l[a] ^^^ turn tt).toNat.testBit b = (Bm.bit l (8 * a + b) == tt) := by
        intro b hb
        rw [turn_bit _ _ _ hb, Bm.bit_in (by omega)]
        have e1 : (8 * a + b) / 8 = a := by omega
        have e2 : (8 * a + b) % 8 = b := by omega
        simp only [e1, e2]
      have hval : bits .xor .u8 ((l[a].toNat : Nat) : Int) 255 = (((l[a] ^^^ turn tt).toNat : Nat) : Int) := by
        rw [show (255 : Int) = (((turn tt).toNat : Nat) : Int) by rw [← Htt.out]; rfl, u8_xor]
      obtain ⟨x, Hx⟩ : ∃ x, Hid (l[a] ^^^ turn tt = x) := ⟨_, Lib.hid rfl⟩
      rw [Hx.out] at hbitx hval
      have Hbitx := Lib.hid hbitx
      have Hval := Lib.hid hval
      have hx256 := x.toNat_lt
      clear hbitx hval
      go_wp2
      rw [show Value.int .i64 0 = Value.int .i64 ((0 : Nat) : Int) from rfl]
      go_loopg [22] 8 (fun g2 s22 wx => ∃ b : Nat, s22 = .int .i64 b ∧ b + g2 = 8 ∧ w = wx ∧ Hid (∀ j, i ≤ j → j < 8 * a + b → Bm.bit l j ≠ tt))
      case atStart => exact ⟨0, rfl, rfl, rfl, Ha⟩
      case round =>
        obtain ⟨b, rfl, hg2, rfl, Hb⟩ := hrel
        by_cases hb8 : b < 8
        · by_cases hz : x.toNat / 2 ^ b = 0
          · have hz' : (bits .xor .u8 ((l[a].toNat : Nat) : Int) 255 / (2 : Int) ^ b == 0) = true := by
              rw [Hval.out, shr_nat, hz]; rfl
            go_wp2
            go_roundg g
            case rel =>
              refine ⟨a + 1, by go_num, by omega, by omega, rfl, Lib.hid fun j h1 h2 => ?_⟩
              by_cases hj : j < 8 * a + b
              · exact Hb.out j h1 hj
              · have e : j = 8 * a + (j - 8 * a) := by omega
                have h3 := Hbitx.out (j - 8 * a) (by omega)
                rw [← e, div_zero_bits hz (by omega)] at h3
                exact ne_of_beq h3.symm
            case measure => omega
          · have hz' : (bits .xor .u8 ((l[a].toNat : Nat) : Int) 255 / (2 : Int) ^ b == 0) = false := by
              rw [Hval.out, shr_nat, Bool.eq_false_iff]
              intro h
              have := eq_of_beq h
              omega
            by_cases hge : i ≤ 8 * a + b
            · cases hbit : x.toNat.testBit b
              · have h1 : (bits .and .u8 (bits .xor .u8 ((l[a].toNat : Nat) : Int) 255 / (2 : Int) ^ b) 1 == 1) = false := by
                  rw [Hval.out, bit_val _ _ hx256, hbit]
                go_wp2
                go_roundg (gk - 1)
                case rel =>
                  refine ⟨b + 1, by go_num, by omega, rfl, Lib.hid fun j h1 h2 => ?_⟩
                  by_cases hj : j < 8 * a + b
                  · exact Hb.out j h1 hj
                  · have h3 := Hbitx.out b hb8
                    rw [hbit, show 8 * a + b = j from by omega] at h3
                    exact ne_of_beq h3.symm
                case measure => omega
              · have h1 : (bits .and .u8 (bits .xor .u8 ((l[a].toNat : Nat) : Int) 255 / (2 : Int) ^ b) 1 == 1) = true := by
                  rw [Hval.out, bit_val _ _ hx256, hbit]
                go_wp2
                try rw [Exit.noGoto_ret]
                go_ret
                have h3 := Hbitx.out b hb8
                rw [hbit] at h3
                rw [← HN.out, Hsome.out (8 * a + b) hge (by omega) (by rw [Htt.out]; exact eq_of_beq h3.symm) (fun j h1 h2 => by rw [Htt.out]; exact Hb.out j h1 h2)]
                exact ⟨ret_int (by omega), rfl⟩
            · go_wp2
              go_roundg (gk - 1)
              case rel =>
                refine ⟨b + 1, by go_num, by omega, rfl, Lib.hid fun j h1 h2 => ?_⟩
                omega
              case measure => omega
        · obtain rfl : b = 8 := by omega
          go_wp2
          go_roundg g
          case rel => exact ⟨a + 1, by go_num, by omega, by omega, rfl, Lib.hid fun j h1 h2 => Hb.out j h1 (by omega)⟩
          case measure => omega
    · go_wp2
      try rw [Exit.noGoto_ret]
      go_ret
      rw [← HN.out, Hnone.out (fun j h1 h2 => by rw [Htt.out]; exact Ha.out j h1 (by omega))]
      exact ⟨rfl, rfl⟩
theorem next_taken (l : List UInt8) (hl : l.length ≤ 100000) (i : Nat) (hi : i ≤ 9223372036854775807) (w : World) :
    Calls Try.prog 37 #[.string (str l), .int .i64 i, .bool true] w fun e w' => e = .returned (.int .i64 (Bm.next l i true)) ∧ w = w' := by
  have Hnone := Lib.hid (@Bm.next_none l i true)
  have Hsome := Lib.hid (@Bm.next_some l i · true)
  obtain ⟨N, HN⟩ : ∃ N, Hid (Bm.next l i true = N) := ⟨_, Lib.hid rfl⟩
  rw [HN.out]
  obtain ⟨tt, Htt⟩ : ∃ tt, Hid (true = tt) := ⟨_, Lib.hid rfl⟩
  go_enter Try.func37, Try.ntmps37
  go_wp2
  go_step3
  go_wp2
  go_step3
  go_wp2
  rw [show (i : Int) / 8 = ((i / 8 : Nat) : Int) by omega]
  go_loopg [8] l.length (fun g s8 wx => ∃ a : Nat, s8 = .int .i64 a ∧ l.length ≤ a + g ∧ i / 8 ≤ a ∧ w = wx ∧ Hid (∀ j, i ≤ j → j < 8 * a → Bm.bit l j ≠ tt))
  case atStart => exact ⟨i / 8, rfl, by omega, Nat.le_refl _, rfl, Lib.hid fun j h1 h2 => by omega⟩
  case round =>
    obtain ⟨a, rfl, hg, ha, rfl, Ha⟩ := hrel
    by_cases hlt : a < l.length
    · obtain ⟨g, rfl⟩ : ∃ g, gk = g + 1 := ⟨gk - 1, by omega⟩
      have hbitx : ∀ b, b < 8 → (l[a] ^^^ turn tt).toNat.testBit b = (Bm.bit l (8 * a + b) == tt) := by
        intro b hb
        rw [turn_bit _ _ _ hb, Bm.bit_in (by omega)]
        have e1 : (8 * a + b) / 8 = a := by omega
        have e2 : (8 * a + b) % 8 = b := by omega
        simp only [e1, e2]
      have hval : bits .xor .u8 ((l[a].toNat : Nat) : Int) 0 = (((l[a] ^^^ turn tt).toNat : Nat) : Int) := by
        rw [show (0 : Int) = (((turn tt).toNat : Nat) : Int) by rw [← Htt.out]; rfl, u8_xor]
      obtain ⟨x, Hx⟩ : ∃ x, Hid (l[a] ^^^ turn tt = x) := ⟨_, Lib.hid rfl⟩
      rw [Hx.out] at hbitx hval
      have Hbitx := Lib.hid hbitx
      have Hval := Lib.hid hval
      have hx256 := x.toNat_lt
      clear hbitx hval
      go_wp2
      rw [show Value.int .i64 0 = Value.int .i64 ((0 : Nat) : Int) from rfl]
      go_loopg [22] 8 (fun g2 s22 wx => ∃ b : Nat, s22 = .int .i64 b ∧ b + g2 = 8 ∧ w = wx ∧ Hid (∀ j, i ≤ j → j < 8 * a + b → Bm.bit l j ≠ tt))
      case atStart => exact ⟨0, rfl, rfl, rfl, Ha⟩
      case round =>
        obtain ⟨b, rfl, hg2, rfl, Hb⟩ := hrel
        by_cases hb8 : b < 8
        · by_cases hz : x.toNat / 2 ^ b = 0
          · have hz' : (bits .xor .u8 ((l[a].toNat : Nat) : Int) 0 / (2 : Int) ^ b == 0) = true := by
              rw [Hval.out, shr_nat, hz]; rfl
            go_wp2
            go_roundg g
            case rel =>
              refine ⟨a + 1, by go_num, by omega, by omega, rfl, Lib.hid fun j h1 h2 => ?_⟩
              by_cases hj : j < 8 * a + b
              · exact Hb.out j h1 hj
              · have e : j = 8 * a + (j - 8 * a) := by omega
                have h3 := Hbitx.out (j - 8 * a) (by omega)
                rw [← e, div_zero_bits hz (by omega)] at h3
                exact ne_of_beq h3.symm
            case measure => omega
          · have hz' : (bits .xor .u8 ((l[a].toNat : Nat) : Int) 0 / (2 : Int) ^ b == 0) = false := by
              rw [Hval.out, shr_nat, Bool.eq_false_iff]
              intro h
              have := eq_of_beq h
              omega
            by_cases hge : i ≤ 8 * a + b
            · cases hbit : x.toNat.testBit b
              · have h1 : (bits .and .u8 (bits .xor .u8 ((l[a].toNat : Nat) : Int) 0 / (2 : Int) ^ b) 1 == 1) = false := by
                  rw [Hval.out, bit_val _ _ hx256, hbit]
                go_wp2
                go_roundg (gk - 1)
                case rel =>
                  refine ⟨b + 1, by go_num, by omega, rfl, Lib.hid fun j h1 h2 => ?_⟩
                  by_cases hj : j < 8 * a + b
                  · exact Hb.out j h1 hj
                  · have h3 := Hbitx.out b hb8
                    rw [hbit, show 8 * a + b = j from by omega] at h3
                    exact ne_of_beq h3.symm
                case measure => omega
              · have h1 : (bits .and .u8 (bits .xor .u8 ((l[a].toNat : Nat) : Int) 0 / (2 : Int) ^ b) 1 == 1) = true := by
                  rw [Hval.out, bit_val _ _ hx256, hbit]
                go_wp2
                try rw [Exit.noGoto_ret]
                go_ret
                have h3 := Hbitx.out b hb8
                rw [hbit] at h3
                rw [← HN.out, Hsome.out (8 * a + b) hge (by omega) (by rw [Htt.out]; exact eq_of_beq h3.symm) (fun j h1 h2 => by rw [Htt.out]; exact Hb.out j h1 h2)]
                exact ⟨ret_int (by omega), rfl⟩
            · go_wp2
              go_roundg (gk - 1)
              case rel =>
                refine ⟨b + 1, by go_num, by omega, rfl, Lib.hid fun j h1 h2 => ?_⟩
                omega
              case measure => omega
        · obtain rfl : b = 8 := by omega
          go_wp2
          go_roundg g
          case rel => exact ⟨a + 1, by go_num, by omega, by omega, rfl, Lib.hid fun j h1 h2 => Hb.out j h1 (by omega)⟩
          case measure => omega
    · go_wp2
      try rw [Exit.noGoto_ret]
      go_ret
      rw [← HN.out, Hnone.out (fun j h1 h2 => by rw [Htt.out]; exact Ha.out j h1 (by omega))]
      exact ⟨rfl, rfl⟩
theorem next_any (l : List UInt8) (hl : l.length ≤ 100000) (i : Nat) (hi : i ≤ 9223372036854775807) (t : Bool) (w : World) :
    Calls Try.prog 37 #[.string (str l), .int .i64 i, .bool t] w fun e w' => e = .returned (.int .i64 (Bm.next l i t)) ∧ w = w' := by
  cases t
  · exact next_free l hl i hi w
  · exact next_taken l hl i hi w
end Go.Proofs.Ytoakjcmhmlngfaa
