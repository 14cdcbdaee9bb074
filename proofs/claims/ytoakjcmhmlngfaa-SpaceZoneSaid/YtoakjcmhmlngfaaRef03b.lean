
/- What the document's Set, Each, Right and Same for layer 3 give, at this translation. -/
import Derived.Test.YtoakjcmhmlngfaaRef03
namespace Go.Proofs.Ytoakjcmhmlngfaa
open Go.RowKit

theorem add_one (n k : Nat) (hn : n < 256) (hk : k < 8) (h : n.testBit k = false) : n + 2 ^ k = n ^^^ 2 ^ k := by
  have h0 : ∀ n : Fin 256, ∀ k : Fin 8, n.val.testBit k.val = false → n.val + 2 ^ k.val = n.val ^^^ 2 ^ k.val := by decide +kernel
  exact h0 ⟨n, hn⟩ ⟨k, hk⟩ h
theorem sub_one (n k : Nat) (hn : n < 256) (hk : k < 8) (h : n.testBit k = true) : 2 ^ k ≤ n ∧ n - 2 ^ k = n ^^^ 2 ^ k := by
  have h0 : ∀ n : Fin 256, ∀ k : Fin 8, n.val.testBit k.val = true → 2 ^ k.val ≤ n.val ∧ n.val - 2 ^ k.val = n.val ^^^ 2 ^ k.val := by decide +kernel
  exact h0 ⟨n, hn⟩ ⟨k, hk⟩ h
theorem flip_parts (l : List UInt8) (i : Nat) (h : i / 8 < l.length) : Bm.flip l i = l.take (i / 8) ++ [UInt8.ofNat ((l[i / 8]).toNat ^^^ 2 ^ (i % 8))] ++ l.drop (i / 8 + 1) := by
  have e : UInt8.ofNat ((l[i / 8]).toNat ^^^ 2 ^ (i % 8)) = l[i / 8] ^^^ Bm.one (i % 8) := by
    apply UInt8.toNat_inj.1
    have h1 : (Bm.one (i % 8)).toNat = 2 ^ (i % 8) := by
      have : ∀ k, k < 8 → (Bm.one k).toNat = 2 ^ k := by decide
      exact this _ (by omega)
    have h2 : (l[i / 8]).toNat ^^^ 2 ^ (i % 8) < 256 := by
      have a := (l[i / 8]).toNat_lt
      have b : 2 ^ (i % 8) < 2 ^ 8 := Nat.pow_lt_pow_right (by omega) (by omega)
      exact Nat.xor_lt_two_pow (n := 8) a b
    rw [UInt8.toNat_xor, h1]
    exact Nat.mod_eq_of_lt h2
  rw [e, Bm.flip, List.getD_eq_getElem?_getD, List.getElem?_eq_getElem h, List.set_eq_take_append_cons_drop, if_pos h]
  simp
theorem XSet_flip (l : List UInt8) (hl : l.length ≤ 100000) (i : Nat) (h : i < 8 * l.length) (t : Bool) (ht : Bm.bit l i ≠ t) (w : World) :
    Calls Try.prog 33 #[.string (str l), .int .i64 i, .bool t] w fun e w' => e = .returned (.string (str (Bm.flip l i))) ∧ Below w.heap.size w w' := by
  have ht' : (Bm.bit l i == t) = false := by simpa using ht
  have h8 : i / 8 < l.length := by omega
  have Hp := Lib.hid (flip_parts l i h8)
  have Hb := Lib.hid (Bm.bit_in h)
  obtain ⟨F, HF⟩ : ∃ F, Hid (Bm.flip l i = F) := ⟨_, Lib.hid rfl⟩
  rw [HF.out] at Hp ⊢
  obtain ⟨n, Hn⟩ : ∃ n, Hid (l[i / 8].toNat = n) := ⟨_, Lib.hid rfl⟩
  have hn256 : n < 256 := by rw [← Hn.out]; exact UInt8.toNat_lt _
  rw [Hn.out] at Hp Hb
  have Ht := Lib.hid ht
  clear ht
  go_enter Try.func33, Try.ntmps33
  go_wp2_with fail
  refine (XHas_in _ hl _ h _).mono ?_
  rintro e w1 ⟨rfl, rfl⟩
  go_wp2
  go_loop [7, 8] (fun b k => ∃ j : Nat, j ≤ i % 8 ∧ k = .int .i64 j ∧ b = .int .i64 ((2 ^ j : Nat) : Int)) (fun _ k => i % 8 - (intOf k).toNat)
  case atStart => exact ⟨0, Nat.zero_le _, rfl, rfl⟩
  case round =>
    obtain ⟨j, hj, rfl, rfl⟩ := hrel
    have hle : 2 ^ j ≤ 2 ^ 7 := Nat.pow_le_pow_right (by omega) (by omega)
    obtain ⟨m, Hm⟩ : ∃ m, Hid (2 ^ j = m) := ⟨_, Lib.hid rfl⟩
    rw [Hm.out] at hle ⊢
    have hm : m ≤ 128 := hle
    clear hle
    by_cases hlt : j < i % 8
    · have hlt2 : (j : Int) < (i : Int) % 8 := by omega
      go_wp2
      go_round
      case rel =>
        refine ⟨j + 1, by omega, by go_num, ?_⟩
        rw [Nat.pow_succ, Hm.out]
        go_num
      case measure => simp [intOf]; omega
    · have hlt2 : ¬ ((j : Int) < (i : Int) % 8) := by omega
      have E := Lib.hid (show j = i % 8 by omega)
      have hb8 := (l[i / 8]).toNat_lt
      have hi8 : i % 8 < 8 := by omega
      have Hv := Lib.hid (show (t = true → n + m = n ^^^ m) ∧ (t = false → m ≤ n ∧ n - m = n ^^^ m) by
        have e1 := add_one n (i % 8) hn256 hi8
        have e2 := sub_one n (i % 8) hn256 hi8
        rw [← Hb.out, ← E.out, Hm.out] at e1 e2
        constructor
        · rintro rfl
          exact e1 (by have := Ht.out; simpa using this)
        · rintro rfl
          exact e2 (by have := Ht.out; simpa using this))
      have hx : n ^^^ m < 256 := Nat.xor_lt_two_pow (n := 8) hn256 (by omega)
      obtain ⟨x, Hx⟩ : ∃ x, Hid (n ^^^ m = x) := ⟨_, Lib.hid rfl⟩
      rw [Hx.out] at hx Hv
      rw [← E.out, Hm.out, Hx.out] at Hp
      cases t
      all_goals
        go_wp2
        rw [Hn.out]
        have hv := Hv.out
        simp only [forall_const, Bool.false_eq_true, Bool.true_eq_false, false_implies, true_and, and_true] at hv
        first | rw [show (n : Int) + (m : Int) = (x : Int) by omega] | rw [show (n : Int) - (m : Int) = (x : Int) by omega]
        clear hv
        have hbs2 : (convert 62 9 (.slice (some ⟨w.heap.size, 0, none⟩) 1 1)).run Try.prog (w.alloc (.cells #[.int .u8 (x : Int)] 5)).drew = .ok (.string (str [UInt8.ofNat x])) (w.alloc (.cells #[.int .u8 (x : Int)] 5)).drew := bs1 w.drew w.heap.size (x : Int) rfl
        go_region
        all_goals
          go_wp2
          go_ret
          exact ⟨ret_str (by rw [Hp.out]; simp), ((Below.refl _ _).alloc (Nat.le_refl _) _).drew⟩
theorem XSet_keep (l : List UInt8) (hl : l.length ≤ 100000) (i : Nat) (h : i < 8 * l.length) (t : Bool) (ht : Bm.bit l i = t) (w : World) :
    Calls Try.prog 33 #[.string (str l), .int .i64 i, .bool t] w fun e w' => e = .returned (.string (str l)) ∧ Below w.heap.size w w' := by
  have ht' : (Bm.bit l i == t) = true := by simpa using ht
  have h8 : i / 8 < l.length := by omega
  have q1 : decide ((i : Int) < 0) = false := by simp
  have q2 : decide ((l.length : Int) ≤ (i : Int) / 8) = false := by simp; omega
  clear ht
  go_enter Try.func33, Try.ntmps33
  go_wp2_with fail
  refine (XHas_in _ hl _ h _).mono ?_
  rintro e w1 ⟨rfl, rfl⟩
  go_wp2
  go_ret
  exact ⟨rfl, Below.refl _ _⟩
theorem XSet_out (l : List UInt8) (i : Int) (hi : i ≤ 9223372036854775807) (h : i < 0 ∨ 8 * l.length ≤ i) (t : Bool) (w : World) :
    Calls Try.prog 33 #[.string (str l), .int .i64 i, .bool t] w fun e w' => e = .returned (.string (str l)) ∧ Below w.heap.size w w' := by
  by_cases h0 : i < 0
  · clear h
    go_enter Try.func33, Try.ntmps33
    go_wp2
    go_ret
    exact ⟨rfl, Below.refl _ _⟩
  · have h1 : (l.length : Int) ≤ i / 8 := by omega
    have h2 : 0 ≤ i := by omega
    clear h
    go_enter Try.func33, Try.ntmps33
    go_wp2
    go_ret
    exact ⟨rfl, Below.refl _ _⟩
theorem XSet_any (l : List UInt8) (hl : l.length ≤ 100000) (i : Int) (hi : i ≤ 9223372036854775807) (t : Bool) (w : World) :
    Calls Try.prog 33 #[.string (str l), .int .i64 i, .bool t] w fun e w' => e = .returned (.string (str (Bm.setI l i t))) ∧ Below w.heap.size w w' := by
  by_cases h0 : 0 ≤ i
  · obtain ⟨k, rfl⟩ := Int.eq_ofNat_of_zero_le h0
    by_cases h1 : k < 8 * l.length
    · rw [Bm.setI_nat]
      by_cases h2 : Bm.bit l k = t
      · rw [show Bm.set l k t = l from by rw [← h2, Bm.set_same]]
        exact XSet_keep l hl k h1 t h2 w
      · rw [show Bm.set l k t = Bm.flip l k from if_pos ⟨h1, h2⟩]
        exact XSet_flip l hl k h1 t h2 w
    · rw [Bm.setI_out (by omega)]
      exact XSet_out l k hi (by omega) t w
  · rw [Bm.setI_neg (by omega)]
    exact XSet_out l i hi (by omega) t w
end Go.Proofs.Ytoakjcmhmlngfaa
