/- What each function of the document's answer for layer 2 gives, at this translation. -/
import Derived.Test.YtgncmgchoogmpaaDoorCrc11
import Derived.Deep.RegionHeld3
namespace Go.Proofs.YtgncmgchoogmpaaDoor
open Go.RowKit

theorem steps_succ : ∀ n (c : BitVec 32), Crc.steps (n + 1) c = Crc.step (Crc.steps n c)
  | 0, _ => rfl
  | n + 1, c => by rw [Crc.steps, steps_succ n]; rfl
theorem msb_ge (c : BitVec 32) (h : 2147483648 ≤ uv c) : c.msb = true := by
  rw [BitVec.msb_eq_decide]; unfold uv at h; simp; omega
theorem msb_lt (c : BitVec 32) (h : ¬ 2147483648 ≤ uv c) : c.msb = false := by
  rw [BitVec.msb_eq_decide]; unfold uv at h; simp; omega
theorem uv_dbl (a : BitVec 32) : uv a * (2 : Int) % (4294967296 : Int) = uv (a <<< (1 : Nat)) := by
  unfold uv
  rw [BitVec.toNat_shiftLeft, Nat.shiftLeft_eq]
  have := a.isLt
  omega
theorem great_val (c : BitVec 32) (h : 2147483648 ≤ uv c) : bits .xor .u32 (uv c * (2 : Int) % (4294967296 : Int)) 79764919 = uv (Crc.step c) := by
  have e : (79764919 : Int) = uv 0x04c11db7#32 := by decide
  rw [uv_dbl, e, uv_xor, Crc.step, msb_ge c h, if_pos rfl]
theorem small_val (c : BitVec 32) (h : ¬ 2147483648 ≤ uv c) : uv c * (2 : Int) % (4294967296 : Int) = uv (Crc.step c) := by
  rw [uv_dbl, Crc.step_low _ (msb_lt c h)]
theorem XAdd_any (c : BitVec 32) (l : List UInt8) (hl : l.length ≤ maxLen) (w : World) :
    Calls Tryd.prog 73 #[.int .u32 (uv c), .string (str l)] w fun e w' => e = .returned (.int .u32 (uv (Crc.add c l))) ∧ w = w' := by
  unfold maxLen at hl
  have hs : IntKind.u32.signed = false := rfl
  go_enter Tryd.func73, Tryd.ntmps73
  go_wp2
  rw [not_val]
  go_loop [0, 5] (fun a i => ∃ k : Nat, k ≤ l.length ∧ i = .int .i64 k ∧ a = .int .u32 (uv (Crc.sum (~~~c) (l.take k)))) (fun _ i => l.length - (intOf i).toNat)
  case atStart => exact ⟨0, Nat.zero_le _, rfl, rfl⟩
  case round =>
    obtain ⟨k, hk, rfl, rfl⟩ := hrel
    by_cases hlt : k < l.length
    · go_wp2
      rw [top_val]
      obtain ⟨s0, Hs0⟩ : ∃ s0, Hid (Crc.sum (~~~c) (l.take k) ^^^ Crc.top l[k] = s0) := ⟨_, Lib.hid rfl⟩
      rw [Hs0.out]
      go_loop [0, 6] (fun a i => ∃ j : Nat, j ≤ 8 ∧ i = .int .i64 j ∧ a = .int .u32 (uv (Crc.steps j s0))) (fun _ i => 8 - (intOf i).toNat)
      case atStart => exact ⟨0, Nat.zero_le _, rfl, rfl⟩
      case round =>
        obtain ⟨j, hj, rfl, rfl⟩ := hrel
        by_cases hj8 : j < 8
        · by_cases hg : 2147483648 ≤ uv (Crc.steps j s0)
          · go_wp2
            go_round
            case rel =>
              refine ⟨j + 1, by omega, by go_num, ?_⟩
              rw [great_val _ hg, steps_succ]
            case measure => simp [intOf]; omega
          · go_wp2
            go_round
            case rel =>
              refine ⟨j + 1, by omega, by go_num, ?_⟩
              rw [small_val _ hg, steps_succ]
            case measure => simp [intOf]; omega
        · obtain rfl : j = 8 := by omega
          go_wp2
          go_round
          case rel =>
            refine ⟨k + 1, by omega, by go_num, ?_⟩
            rw [take_snoc l k hlt, Crc.sum_append, ← Hs0.out]
            rfl
          case measure => simp [intOf]; omega
    · go_wp2
      go_ret
      exact ⟨ret_int (by rw [not_val, List.take_of_length_le (by omega)]; rfl), rfl⟩
theorem XOf_any (l : List UInt8) (hl : l.length ≤ maxLen) (w : World) :
    Calls Tryd.prog 63 #[.string (str l)] w fun e w' => e = .returned (.int .u32 (uv (Crc.add 0#32 l))) ∧ w = w' := by
  have h := XAdd_any 0#32 l hl w
  rw [show uv 0#32 = 0 by decide] at h
  go_enter Tryd.func63, Tryd.ntmps63
  go_wp2_with fail
  refine h.mono ?_
  rintro e w1 ⟨rfl, rfl⟩
  go_wp2
  go_ret
  exact ⟨rfl, rfl⟩
theorem strs_lit1 (w : World) (l : List UInt8) (hl : l.length ≤ maxLen) : IsStrs (w.alloc (.cells #[.string (str l)] 9)) (some ⟨w.heap.size, 0, none⟩) 1 [l] := by
  refine ⟨rfl, by decide, by simpa using hl, fun _ => ⟨_, 0, rfl, ?_⟩⟩
  intro i hi
  obtain rfl : i = 0 := by omega
  simp [go_sem]
theorem strs_lit2 (w : World) (l m : List UInt8) (hl : l.length ≤ maxLen) (hm : m.length ≤ maxLen) : IsStrs (w.alloc (.cells #[.string (str l), .string (str m)] 9)) (some ⟨w.heap.size, 0, none⟩) 2 [l, m] := by
  refine ⟨rfl, by decide, by simp [hl, hm], fun _ => ⟨_, 0, rfl, ?_⟩⟩
  intro i hi
  obtain rfl | rfl : i = 0 ∨ i = 1 := by omega
  · simp [go_sem]
  · simp [go_sem]
theorem strs_lit1n (w : World) (n : Nat) (l : List UInt8) (hl : l.length ≤ maxLen) (hn : n = w.heap.size) : IsStrs (w.alloc (.cells #[.string (str l)] 9)) (some ⟨n, 0, none⟩) 1 [l] := hn ▸ strs_lit1 w l hl
theorem strs_lit2n (w : World) (n : Nat) (l m : List UInt8) (hl : l.length ≤ maxLen) (hm : m.length ≤ maxLen) (hn : n = w.heap.size) : IsStrs (w.alloc (.cells #[.string (str l), .string (str m)] 9)) (some ⟨n, 0, none⟩) 2 [l, m] := hn ▸ strs_lit2 w l m hl hm
theorem rowed_len : ∀ (ss : List (List UInt8)), (∀ l ∈ ss, l.length ≤ 600) → (rowed ss).length ≤ 608 * ss.length
  | [], _ => by simp [rowed]
  | l :: ss, h => by
    have h1 := rowed_len ss (fun x hx => h x (by simp [hx]))
    have h2 := h l (by simp)
    have e : (rowed (l :: ss)).length = 8 + l.length + (rowed ss).length := by simp [rowed, be_length]; omega
    rw [e, List.length_cons]
    omega
theorem rowed_snoc (ss : List (List UInt8)) (l : List UInt8) : rowed (ss ++ [l]) = rowed ss ++ (be 8 l.length ++ l) := by simp [rowed]
theorem XRow_any (a : Option Addr) (len cap : Nat) (ss : List (List UInt8)) (w : World) (h : IsStrs w a len ss) (hl20 : len ≤ 64) (h200 : ∀ l ∈ ss, l.length ≤ 600) :
    Calls Tryd.prog 52 #[.slice a len cap] w fun e w' => e = .returned (.int .u32 (uv (rows 0#32 ss))) ∧ Below w.heap.size w w' := by
  have hl := h.length
  go_enter Tryd.func52, Tryd.ntmps52
  go_wp2
  go_loopw [3, 4] (fun s i wr => ∃ k : Nat, k ≤ len ∧ i = .int .i64 k ∧ s = .string (str (rowed (ss.take k))) ∧ Below w.heap.size w wr) (fun _ i _ => len - (intOf i).toNat)
  case atStart => exact ⟨0, Nat.zero_le _, rfl, rfl, Below.refl _ _⟩
  case round =>
    obtain ⟨k, hk, rfl, rfl, hbel⟩ := hrel
    have Hbel := Lib.hid hbel
    clear hbel
    by_cases hlt : k < len
    · have h' := h.below Hbel.out
      obtain ⟨b', off, ea, hc⟩ := h'.cells (by omega)
      have hck := hc k hlt
      have hmem : ss.getD k [] ∈ ss := by
        rw [List.getD_eq_getElem?_getD, List.getElem?_eq_getElem (by omega)]
        exact List.getElem_mem _
      have hx200 := h200 _ hmem
      have hsn := takeS_snoc ss k (by omega)
      obtain ⟨x, Hx⟩ : ∃ x, Hid (ss.getD k [] = x) := ⟨_, Lib.hid rfl⟩
      rw [Hx.out] at hck hx200 hsn
      have Hsn := Lib.hid hsn
      subst ea
      have hkeep : ∀ u, Below w.heap.size w u → Below w.heap.size w u ∧ u.cell? ⟨b', off + k, none⟩ = some (.string (str x)) := fun u hu => ⟨hu, by
        obtain ⟨b2, off2, e2, hc2⟩ := (h.below hu).cells (by omega)
        cases e2
        rw [hc2 k hlt, Hx.out]⟩
      have Hkeep := Lib.hid hkeep
      clear hc h' hsn hmem hkeep
      have H := Lib.hid h
      clear h
      obtain ⟨R, HR⟩ : ∃ R, Hid (rowed (ss.take k) = R) := ⟨_, Lib.hid rfl⟩
      have hR : R.length ≤ 38912 := by
        have h1 := rowed_len (ss.take k) (fun l hl => h200 l (List.mem_of_mem_take hl))
        rw [HR.out] at h1
        simp at h1
        omega
      have hbe := be_length 8 x.length
      obtain ⟨B8, HB8⟩ : ∃ B8, Hid (be 8 x.length = B8) := ⟨_, Lib.hid rfl⟩
      rw [HB8.out] at hbe
      rw [HR.out]
      have i1 : (k : Int) < (len : Int) := by omega
      have i0 : 0 ≤ (k : Int) := by omega
      have g1 : ¬ (9223372036854775807 < R.length + 8) := by omega
      have g2 : ¬ (9223372036854775807 < R.length + 8 + x.length) := by omega
      have q1 : IntKind.u64.wrap (x.length : Int) = (x.length : Int) := IntWalk.u64_in _ (by omega)
      go_wp2_with fail
      go_region_held3 (fun u => Below w.heap.size w u ∧ u.cell? ⟨b', off + k, none⟩ = some (.string (str x)))
        (first | exact Hkeep.out _ Hbel.out | exact Hkeep.out _ (Below.drew Hbel.out) | (go_split_ands; first | exact Hkeep.out _ (bnext (by assumption) hb1) | exact Hkeep.out _ (bnext (Below.drew Hbel.out) hb1)))
        (first | (go_at_call 31; refine (Num8_any _ (by omega) (by omega) _).mono ?_; rintro e wc ⟨rfl, hb1⟩; rw [Int.toNat_natCast, HB8.out]))
      go_wp2
      go_roundw
      case rel =>
        refine ⟨k + 1, by omega, by go_num, ?_, bnext (Below.drew Hbel.out) hb1⟩
        rw [Hsn.out, rowed_snoc, HR.out, HB8.out]
      case measure => simp [intOf]; omega
    · obtain rfl : k = len := by omega
      go_wp2_with fail
      rw [List.take_of_length_le (by omega)]
      refine (XOf_any _ (Nat.le_trans (rowed_len ss h200) (by unfold maxLen; omega)) _).mono ?_
      rintro e wc ⟨rfl, rfl⟩
      go_wp2
      go_ret
      exact ⟨ret_int (by rw [rows_join]), Hbel.out⟩
end Go.Proofs.YtgncmgchoogmpaaDoor
