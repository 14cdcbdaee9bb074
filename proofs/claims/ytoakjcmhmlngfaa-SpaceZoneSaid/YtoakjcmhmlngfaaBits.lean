
/- What the other functions of package bitmap give: made, set, the first one, counted, right. -/
import Derived.Test.YtoakjcmhmlngfaaRep0
import Derived.Test.YtoakjcmhmlngfaaBitmap
import Derived.Test.YtoakjcmhmlngfaaByt
import Derived.Test.YtoakjcmhmlngfaaShelf
namespace Go.Proofs.Ytoakjcmhmlngfaa
open Go.RowKit

theorem First_any (l : List UInt8) (hl : l.length ≤ 100000) (i : Int) (hi : i ≤ 9223372036854775807) (w : World) :
    Calls Try.prog 22 #[.string (str l), .int .i64 i] w fun e w' => e = .returned (.int .i64 (Bm.next l i.toNat false)) ∧ w = w' := by
  go_enter Try.func22, Try.ntmps22
  go_wp2_with fail
  rw [show max i 0 = ((i.toNat : Nat) : Int) by omega]
  refine (next_any _ hl _ (by omega) _ _).mono ?_
  rintro e w1 ⟨rfl, rfl⟩
  go_wp2
  go_ret
  exact ⟨rfl, rfl⟩
/-- How many bytes so many bits need. -/
def size (n : Int) : Nat := ((min (max n 0) 4000 + 7) / 8).toNat
theorem size_le (n : Int) : size n ≤ 500 := by unfold size; omega
def zeros (n : Int) : List UInt8 := List.replicate (size n) 0
theorem zeros_length (n : Int) : (zeros n).length = size n := List.length_replicate
theorem New_any (n : Int) (w : World) :
    Calls Try.prog 38 #[.int .i64 n] w fun e w' => e = .returned (.string (str (zeros n))) ∧ Below w.heap.size w w' := by
  go_enter Try.func38, Try.ntmps38
  go_wp2_with fail
  refine (Repeat0_any _ (by omega) (by omega) _).mono ?_
  rintro e w1 ⟨rfl, hb⟩
  go_wp2
  go_ret
  exact ⟨rfl, hb⟩
theorem Ones_any (b : UInt8) (w : World) :
    Calls Try.prog 35 #[.int .u8 ((b.toNat : Nat) : Int)] w fun e w' => e = .returned (.int .i64 (Bm.pop b : Int)) ∧ w = w' := by
  have pop_ones : ∀ b : UInt8, Lib.onesCount b.toNat = Bm.pop b := fun b => by
    have h : ∀ n : Fin 256, Lib.onesCount n.val = ((List.range 8).filter n.val.testBit).length := by decide +kernel
    exact h ⟨b.toNat, b.toNat_lt⟩
  have hb := b.toNat_lt
  refine (Try.bits_OnesCount8 _ w (by omega) (by omega)).mono ?_
  rintro e w1 ⟨rfl, rfl⟩
  rw [Int.toNat_natCast, pop_ones]
  exact ⟨rfl, rfl⟩
theorem Count_any (l : List UInt8) (hl : l.length ≤ 100000) (w : World) :
    Calls Try.prog 18 #[.string (str l)] w fun e w' => e = .returned (.int .i64 (Bm.count l : Int)) ∧ w = w' := by
  go_enter Try.func18, Try.ntmps18
  go_wp2
  go_loop [3, 7] (fun n i => ∃ k : Nat, k ≤ l.length ∧ i = .int .i64 k ∧ n = .int .i64 (Bm.count (l.take k) : Int)) (fun _ i => l.length - (intOf i).toNat)
  case atStart => exact ⟨0, Nat.zero_le _, rfl, rfl⟩
  case round =>
    obtain ⟨k, hk, rfl, rfl⟩ := hrel
    by_cases hlt : k < l.length
    · have hc := Bm.count_le (l.take k)
      have hp : Bm.pop l[k] ≤ 8 := by
        have := List.length_filter_le (l[k].toNat.testBit) (List.range 8)
        simpa [Bm.pop] using this
      have hlk : (l.take k).length = k := by simp; omega
      rw [hlk] at hc
      clear hlk
      obtain ⟨c, Hc⟩ : ∃ c, Hid (Bm.count (l.take k) = c) := ⟨_, Lib.hid rfl⟩
      rw [Hc.out] at hc ⊢
      go_wp2_with fail
      refine (Ones_any _ _).mono ?_
      rintro e w1 ⟨rfl, rfl⟩
      go_wp2
      go_round
      case rel =>
        refine ⟨k + 1, by omega, by go_num, ?_⟩
        rw [take_snoc l k hlt, Bm.count_snoc, Hc.out]
        push_cast
        rfl
      case measure => simp [intOf]; omega
    · go_wp2
      go_ret
      exact ⟨ret_int (by rw [List.take_of_length_le (by omega)]), rfl⟩
theorem one_val (k : Nat) (hk : k < 8) : (2 : Int) ^ k % 256 = (((Bm.one k).toNat : Nat) : Int) := by
  have h : ∀ k, k < 8 → (2 : Int) ^ k % 256 = (((Bm.one k).toNat : Nat) : Int) := by decide
  exact h k hk
theorem Set_flip (l : List UInt8) (hl : l.length ≤ 100000) (i : Nat) (h : i < 8 * l.length) (t : Bool) (ht : Bm.bit l i ≠ t) (w : World) :
    Calls Try.prog 21 #[.string (str l), .int .i64 i, .bool t] w fun e w' => e = .returned (.string (str (Bm.flip l i))) ∧ Below w.heap.size w w' := by
  have ht' : (Bm.bit l i == t) = false := by simpa using ht
  obtain ⟨wb, cap, hconv, hby, hbb, hsz⟩ := bytes_of w l
  have Hby := Lib.hid hby
  have Hbb := Lib.hid hbb
  have hlen := Bm.flip_length l i
  have hby2 := hby.set (i / 8) (l.getD (i / 8) 0 ^^^ Bm.one (i % 8))
  have hback := Bytes.back (w := (wb.setCell ⟨w.heap.size, i / 8, none⟩ (.int .u8 ((l.getD (i / 8) 0 ^^^ Bm.one (i % 8)).toNat : Int))).drew) (b := w.heap.size) (l := Bm.flip l i) ⟨hby2.cell, hby2.free⟩ cap
  rw [hlen] at hback
  have hb2 := (show Below w.heap.size w (wb.setCell ⟨w.heap.size, i / 8, none⟩ (.int .u8 ((l.getD (i / 8) 0 ^^^ Bm.one (i % 8)).toNat : Int))) from hbb.setCell (Nat.le_refl _) _).drew
  have Hb2 := Lib.hid hb2
  have Hback := Lib.hid hback
  clear hby hbb hsz hlen hby2 hback hb2
  have h8 : i / 8 < l.length := by omega
  have hc := Hby.out.cell (i / 8) h8
  have hf := Hby.out.free (i / 8) h8
  have hg : l.getD (i / 8) 0 = l[i / 8] := by rw [List.getD_eq_getElem?_getD, List.getElem?_eq_getElem h8]; rfl
  rw [hg] at hc Hback Hb2
  have Hval := Lib.hid (show bits .xor .u8 ((l[i / 8].toNat : Nat) : Int) ((2 : Int) ^ (i % 8) % 256) = (((l[i / 8] ^^^ Bm.one (i % 8)).toNat : Nat) : Int) by rw [one_val _ (by omega), u8_xor])
  clear hg
  go_enter Try.func21, Try.ntmps21
  go_wp2_with fail
  refine (there_yes _ hl _ h _).mono ?_
  rintro e w1 ⟨rfl, rfl⟩
  go_wp2_with fail
  refine (Has_in _ hl _ h _).mono ?_
  rintro e w1 ⟨rfl, rfl⟩
  go_wp2_with fail
  go_region
  have hback := Hback.out
  have hb2 := Hb2.out
  rw [← Hval.out] at hback hb2
  clear Hback Hb2
  have Hb2 := Lib.hid hb2
  clear hb2
  go_wp2
  go_ret
  exact ⟨rfl, Hb2.out⟩
theorem Set_keep (l : List UInt8) (hl : l.length ≤ 100000) (i : Nat) (h : i < 8 * l.length) (t : Bool) (ht : Bm.bit l i = t) (w : World) :
    Calls Try.prog 21 #[.string (str l), .int .i64 i, .bool t] w fun e w' => e = .returned (.string (str l)) ∧ Below w.heap.size w w' := by
  have ht' : (Bm.bit l i == t) = true := by simpa using ht
  clear ht
  go_enter Try.func21, Try.ntmps21
  go_wp2_with fail
  refine (there_yes _ hl _ h _).mono ?_
  rintro e w1 ⟨rfl, rfl⟩
  go_wp2_with fail
  refine (Has_in _ hl _ h _).mono ?_
  rintro e w1 ⟨rfl, rfl⟩
  go_wp2
  go_ret
  exact ⟨rfl, Below.refl _ _⟩
theorem Set_out (l : List UInt8) (hl : l.length ≤ 100000) (i : Int) (h : i < 0 ∨ 8 * l.length ≤ i) (t : Bool) (w : World) :
    Calls Try.prog 21 #[.string (str l), .int .i64 i, .bool t] w fun e w' => e = .returned (.string (str l)) ∧ Below w.heap.size w w' := by
  go_enter Try.func21, Try.ntmps21
  go_wp2_with fail
  refine (there_no _ hl _ h _).mono ?_
  rintro e w1 ⟨rfl, rfl⟩
  go_wp2
  go_ret
  exact ⟨rfl, Below.refl _ _⟩
theorem Set_any (l : List UInt8) (hl : l.length ≤ 100000) (i : Int) (t : Bool) (w : World) :
    Calls Try.prog 21 #[.string (str l), .int .i64 i, .bool t] w fun e w' => e = .returned (.string (str (Bm.setI l i t))) ∧ Below w.heap.size w w' := by
  by_cases h0 : 0 ≤ i
  · obtain ⟨k, rfl⟩ := Int.eq_ofNat_of_zero_le h0
    by_cases h1 : k < 8 * l.length
    · rw [Bm.setI_nat]
      by_cases h2 : Bm.bit l k = t
      · rw [show Bm.set l k t = l from by rw [← h2, Bm.set_same]]
        exact Set_keep l hl k h1 t h2 w
      · rw [show Bm.set l k t = Bm.flip l k from if_pos ⟨h1, h2⟩]
        exact Set_flip l hl k h1 t h2 w
    · rw [Bm.setI_out (by omega)]
      exact Set_out l hl k (by omega) t w
  · rw [Bm.setI_neg (by omega)]
    exact Set_out l hl i (by omega) t w
/-- Is a text a bitmap of n bits? -/
def rightB (l : List UInt8) (n : Int) : Bool := decide (0 ≤ n) && decide (n ≤ 4000) && decide (l.length = size n) && decide (Bm.next l n.toNat true < 0)
theorem Right_any (l : List UInt8) (hl : l.length ≤ 100000) (n : Int) (w : World) :
    Calls Try.prog 26 #[.string (str l), .int .i64 n] w fun e w' => e = .returned (.bool (rightB l n)) ∧ Below w.heap.size w w' := by
  by_cases h0 : 0 ≤ n
  · obtain ⟨m, rfl⟩ := Int.eq_ofNat_of_zero_le h0
    by_cases h1 : m ≤ 4000
    · have hz := zeros_length (m : Int)
      by_cases h2 : l.length = size m
      · have e : rightB l m = decide (Bm.next l m true < 0) := by
          simp [rightB, h2]
          intro _
          omega
        rw [e]
        have q : ((l.length : Int) == ((zeros (m : Int)).length : Int)) = true := by rw [hz, h2]; simp
        clear h2 hz e
        go_enter Try.func26, Try.ntmps26
        go_wp2_with fail
        refine (New_any _ _).mono ?_
        rintro e w1 ⟨rfl, hb⟩
        go_wp2_with fail
        refine (next_any _ hl _ (by omega) _ _).mono ?_
        rintro e w1 ⟨rfl, rfl⟩
        go_wp2
        go_ret
        exact ⟨rfl, hb⟩
      · have e : rightB l m = false := by simp [rightB, h2]
        rw [e]
        have q : ((l.length : Int) == ((zeros (m : Int)).length : Int)) = false := by rw [hz]; simp; omega
        clear h2 hz e
        go_enter Try.func26, Try.ntmps26
        go_wp2_with fail
        refine (New_any _ _).mono ?_
        rintro e w1 ⟨rfl, hb⟩
        go_wp2
        go_ret
        exact ⟨rfl, hb⟩
    · have e : rightB l m = false := by simp [rightB]; omega
      rw [e]
      clear e
      go_enter Try.func26, Try.ntmps26
      go_wp2
      go_ret
      exact ⟨rfl, Below.refl _ _⟩
  · have e : rightB l n = false := by simp [rightB]; omega
    rw [e]
    clear e
    go_enter Try.func26, Try.ntmps26
    go_wp2
    go_ret
    exact ⟨rfl, Below.refl _ _⟩
end Go.Proofs.Ytoakjcmhmlngfaa
