/- What each function of the document's answer for layer 2 gives, at this translation; the statements' own helpers; the chapter's examples. -/
import Derived.Test.YtbniahmnjljgmaaDoorCrc
namespace Go.Proofs.YtbniahmnjljgmaaDoor
open Go.RowKit

theorem steps_succ : ∀ n (c : BitVec 32), Crc.steps (n + 1) c = Crc.step (Crc.steps n c)
  | 0, _ => rfl
  | n + 1, c => by rw [Crc.steps, steps_succ n]; rfl
theorem msb_ge (c : BitVec 32) (h : 2147483648 ≤ uv c) : c.msb = true := by
  rw [BitVec.msb_eq_decide]; unfold uv at h; simp; omega
theorem msb_lt (c : BitVec 32) (h : ¬ 2147483648 ≤ uv c) : c.msb = false := by
  rw [BitVec.msb_eq_decide]; unfold uv at h; simp; omega
theorem uv_dbl (a : BitVec 32) : uv a * (2 : Int) % (4294967296 : Int) = uv (a <<< (1 : Nat)) := by
  unfold uv
  rw [BitVec.toNat_shiftLeft, Nat.shiftLeft_eq]
  have := a.isLt
  omega
theorem great_val (c : BitVec 32) (h : 2147483648 ≤ uv c) : bits .xor .u32 (uv c * (2 : Int) % (4294967296 : Int)) 79764919 = uv (Crc.step c) := by
  have e : (79764919 : Int) = uv 0x04c11db7#32 := by decide
  rw [uv_dbl, e, uv_xor, Crc.step, msb_ge c h, if_pos rfl]
theorem small_val (c : BitVec 32) (h : ¬ 2147483648 ≤ uv c) : uv c * (2 : Int) % (4294967296 : Int) = uv (Crc.step c) := by
  rw [uv_dbl, Crc.step_low _ (msb_lt c h)]
theorem XAdd_any (c : BitVec 32) (l : List UInt8) (hl : l.length ≤ maxLen) (w : World) :
    Calls Tryd.prog 15 #[.int .u32 (uv c), .string (str l)] w fun e w' => e = .returned (.int .u32 (uv (Crc.add c l))) ∧ w = w' := by
  unfold maxLen at hl
  have hs : IntKind.u32.signed = false := rfl
  go_enter Tryd.func15, Tryd.ntmps15
  go_wp2
  rw [not_val]
  go_loop [0, 5] (fun a i => ∃ k : Nat, k ≤ l.length ∧ i = .int .i64 k ∧ a = .int .u32 (uv (Crc.sum (~~~c) (l.take k)))) (fun _ i => l.length - (intOf i).toNat)
  case atStart => exact ⟨0, Nat.zero_le _, rfl, rfl⟩
  case round =>
    obtain ⟨k, hk, rfl, rfl⟩ := hrel
    by_cases hlt : k < l.length
    · go_wp2
      rw [top_val]
      obtain ⟨s0, Hs0⟩ : ∃ s0, Hid (Crc.sum (~~~c) (l.take k) ^^^ Crc.top l[k] = s0) := ⟨_, Lib.hid rfl⟩
      rw [Hs0.out]
      go_loop [0, 6] (fun a i => ∃ j : Nat, j ≤ 8 ∧ i = .int .i64 j ∧ a = .int .u32 (uv (Crc.steps j s0))) (fun _ i => 8 - (intOf i).toNat)
      case atStart => exact ⟨0, Nat.zero_le _, rfl, rfl⟩
      case round =>
        obtain ⟨j, hj, rfl, rfl⟩ := hrel
        by_cases hj8 : j < 8
        · by_cases hg : 2147483648 ≤ uv (Crc.steps j s0)
          · go_wp2
            go_round
            case rel =>
              refine ⟨j + 1, by omega, by go_num, ?_⟩
              rw [great_val _ hg, steps_succ]
            case measure => simp [intOf]; omega
          · go_wp2
            go_round
            case rel =>
              refine ⟨j + 1, by omega, by go_num, ?_⟩
              rw [small_val _ hg, steps_succ]
            case measure => simp [intOf]; omega
        · obtain rfl : j = 8 := by omega
          go_wp2
          go_round
          case rel =>
            refine ⟨k + 1, by omega, by go_num, ?_⟩
            rw [take_snoc l k hlt, Crc.sum_append, ← Hs0.out]
            rfl
          case measure => simp [intOf]; omega
    · go_wp2
      go_ret
      exact ⟨ret_int (by rw [not_val, List.take_of_length_le (by omega)]; rfl), rfl⟩
theorem XOf_any (l : List UInt8) (hl : l.length ≤ maxLen) (w : World) :
    Calls Tryd.prog 13 #[.string (str l)] w fun e w' => e = .returned (.int .u32 (uv (Crc.add 0#32 l))) ∧ w = w' := by
  have h := XAdd_any 0#32 l hl w
  rw [show uv 0#32 = 0 by decide] at h
  go_enter Tryd.func13, Tryd.ntmps13
  go_wp2_with fail
  refine h.mono ?_
  rintro e w1 ⟨rfl, rfl⟩
  go_wp2
  go_ret
  exact ⟨rfl, rfl⟩
theorem short_any (l : List UInt8) (n : Int) (h0 : 0 ≤ n) (h1 : n < 100000) (w : World) :
    Calls Tryd.prog 11 #[.string (str l), .int .i64 n] w fun e w' => e = .returned (.string (str (l.take n.toNat))) ∧ w = w' := by
  obtain ⟨m, rfl⟩ := Int.eq_ofNat_of_zero_le h0
  rw [Int.toNat_natCast]
  by_cases h : m < l.length
  · go_enter Tryd.func11, Tryd.ntmps11
    go_wp2
    go_ret
    exact ⟨rfl, rfl⟩
  · rw [List.take_of_length_le (by omega)]
    go_enter Tryd.func11, Tryd.ntmps11
    go_wp2
    go_ret
    exact ⟨rfl, rfl⟩
theorem strs_lit1 (w : World) (l : List UInt8) (hl : l.length ≤ maxLen) : IsStrs (w.alloc (.cells #[.string (str l)] 9)) (some ⟨w.heap.size, 0, none⟩) 1 [l] := by
  refine ⟨rfl, by decide, by simpa using hl, fun _ => ⟨_, 0, rfl, ?_⟩⟩
  intro i hi
  obtain rfl : i = 0 := by omega
  simp [go_sem]
theorem strs_lit2 (w : World) (l m : List UInt8) (hl : l.length ≤ maxLen) (hm : m.length ≤ maxLen) : IsStrs (w.alloc (.cells #[.string (str l), .string (str m)] 9)) (some ⟨w.heap.size, 0, none⟩) 2 [l, m] := by
  refine ⟨rfl, by decide, by simp [hl, hm], fun _ => ⟨_, 0, rfl, ?_⟩⟩
  intro i hi
  obtain rfl | rfl : i = 0 ∨ i = 1 := by omega
  · simp [go_sem]
  · simp [go_sem]
theorem strs_lit1n (w : World) (n : Nat) (l : List UInt8) (hl : l.length ≤ maxLen) (hn : n = w.heap.size) : IsStrs (w.alloc (.cells #[.string (str l)] 9)) (some ⟨n, 0, none⟩) 1 [l] := hn ▸ strs_lit1 w l hl
theorem strs_lit2n (w : World) (n : Nat) (l m : List UInt8) (hl : l.length ≤ maxLen) (hm : m.length ≤ maxLen) (hn : n = w.heap.size) : IsStrs (w.alloc (.cells #[.string (str l), .string (str m)] 9)) (some ⟨n, 0, none⟩) 2 [l, m] := hn ▸ strs_lit2 w l m hl hm
set_option maxHeartbeats 2000000 in
theorem awake_any (w : World) (hT : Tab w) :
    Calls Tryd.prog 10 #[] w fun e w' => e = .returned (.bool true) ∧ Below w.heap.size w w' := by
  go_enter Tryd.func10, Tryd.ntmps10
  go_wp2_with fail
  refine (Of_any _ _ _ _ _ (strs_none w) hT).mono ?_
  rintro e w1 ⟨rfl, rfl⟩
  have e0 : uv (sums 0#32 []) = 0 := by decide
  rw [e0]
  go_wp2_with fail
  refine (Of_any _ _ _ [[97]] _ (strs_lit1 w [97] (by decide)) (hT.below ((Below.refl _ _).alloc (Nat.le_refl _) _))).mono ?_
  rintro e w1 ⟨rfl, rfl⟩
  have e1 : uv (sums 0#32 [[97]]) = 429103979 := by decide +kernel
  rw [e1]
  have Hb1 := Lib.hid (show Below w.heap.size w (w.alloc (.cells #[.string (str [97])] 9)) from (Below.refl _ _).alloc (Nat.le_refl _) _)
  obtain ⟨w1, Hw1⟩ : ∃ w1, Hid (w.alloc (.cells #[.string (str [97])] 9) = w1) := ⟨_, Lib.hid rfl⟩
  rw [Hw1.out] at Hb1
  rw [Hw1.out]
  go_wp2_with fail
  refine (Of_any _ _ _ [[49, 50, 51, 52], [53, 54, 55, 56, 57]] _ (strs_lit2 w1 _ _ (by decide) (by decide)) (hT.below (Hb1.out.alloc Hb1.out.size _))).mono ?_
  rintro e w2 ⟨rfl, rfl⟩
  have e4 : uv (sums 0#32 [[49, 50, 51, 52], [53, 54, 55, 56, 57]]) = 4236843288 := by decide +kernel
  rw [e4]
  have Hb2 := Lib.hid (Hb1.out.alloc Hb1.out.size (.cells #[.string (str [49, 50, 51, 52]), .string (str [53, 54, 55, 56, 57])] 9))
  obtain ⟨w2, Hw2⟩ : ∃ w2, Hid (w1.alloc (.cells #[.string (str [49, 50, 51, 52]), .string (str [53, 54, 55, 56, 57])] 9) = w2) := ⟨_, Lib.hid rfl⟩
  rw [Hw2.out] at Hb2
  rw [Hw2.out]
  go_wp2_with fail
  refine (Of_any _ _ _ [[49, 50, 51, 52]] _ (strs_lit1 w2 _ (by decide)) (hT.below (Hb2.out.alloc Hb2.out.size _))).mono ?_
  rintro e w3 ⟨rfl, rfl⟩
  go_wp2_with fail
  refine (Add_any _ [53, 54, 55, 56, 57] (by decide) _ (hT.below (Hb2.out.alloc Hb2.out.size _))).mono ?_
  rintro e w3 ⟨rfl, rfl⟩
  have e6 : uv (Crc.add (sums 0#32 [[49, 50, 51, 52]]) [53, 54, 55, 56, 57]) = 4236843288 := by decide +kernel
  rw [e6]
  go_wp2
  go_ret
  exact ⟨rfl, Hb2.out.alloc Hb2.out.size _⟩
end Go.Proofs.YtbniahmnjljgmaaDoor
