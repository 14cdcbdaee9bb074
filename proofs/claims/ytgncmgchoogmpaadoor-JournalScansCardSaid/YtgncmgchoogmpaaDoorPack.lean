
/- What each function of package pack gives, at this translation: numbers and texts put, read, filled and opened. -/
import Derived.Test.YtgncmgchoogmpaaDoorChecked
import Derived.Test.YtgncmgchoogmpaaDoorBase
import Derived.Test.YtgncmgchoogmpaaDoorShelf
namespace Go.Proofs.YtgncmgchoogmpaaDoor
open Go.RowKit

/-! ### numbers are put -/
theorem mk2 (w : World) : (Instr.makeSlice 67 (.int .i64 2) (.int .i64 2)).run Tryd.prog w = .ok (.slice (some ⟨w.heap.size, 0, none⟩) 2 2) (w.alloc (.cells #[.int .u8 0, .int .u8 0] 5)) := by kernel_rfl
theorem mk4 (w : World) : (Instr.makeSlice 67 (.int .i64 4) (.int .i64 4)).run Tryd.prog w = .ok (.slice (some ⟨w.heap.size, 0, none⟩) 4 4) (w.alloc (.cells #[.int .u8 0, .int .u8 0, .int .u8 0, .int .u8 0] 5)) := by kernel_rfl
theorem mk8 (w : World) : (Instr.makeSlice 67 (.int .i64 8) (.int .i64 8)).run Tryd.prog w = .ok (.slice (some ⟨w.heap.size, 0, none⟩) 8 8) (w.alloc (.cells #[.int .u8 0, .int .u8 0, .int .u8 0, .int .u8 0, .int .u8 0, .int .u8 0, .int .u8 0, .int .u8 0] 5)) := by kernel_rfl
/-- Bytes of a new block as a string. -/
theorem conv_new (w : World) (xs : List Int) (n : Nat) (hn : xs.length = n) : (convert 67 9 (.slice (some ⟨w.heap.size, 0, none⟩) n n)).run Tryd.prog (w.alloc (.cells (xs.map (Value.int .u8)).toArray 5)) = .ok (.string (str (xs.map fun x => UInt8.ofNat x.toNat))) (w.alloc (.cells (xs.map (Value.int .u8)).toArray 5)) := by
  refine (run_convert_bytes_arg (P := Tryd.prog) (w.alloc (.cells (xs.map (Value.int .u8)).toArray 5)) 67 5 Tryd.underlying67 Tryd.underlying5 w.heap.size 0 n n xs hn ?_ 9 Tryd.underlying9).trans ?_
  · intro i hi
    subst hn
    simp [World.cell?_alloc_at, List.getElem?_eq_getElem hi, List.getD]
  · rfl
theorem cv2 (w : World) (a b : Int) : (convert 67 9 (.slice (some ⟨w.heap.size, 0, none⟩) 2 2)).run Tryd.prog (w.alloc (.cells #[.int .u8 a, .int .u8 b] 5)) = .ok (.string (str [UInt8.ofNat a.toNat, UInt8.ofNat b.toNat])) (w.alloc (.cells #[.int .u8 a, .int .u8 b] 5)) :=
  conv_new w [a, b] 2 rfl
theorem cv4 (w : World) (a b c d : Int) : (convert 67 9 (.slice (some ⟨w.heap.size, 0, none⟩) 4 4)).run Tryd.prog (w.alloc (.cells #[.int .u8 a, .int .u8 b, .int .u8 c, .int .u8 d] 5)) = .ok (.string (str [UInt8.ofNat a.toNat, UInt8.ofNat b.toNat, UInt8.ofNat c.toNat, UInt8.ofNat d.toNat])) (w.alloc (.cells #[.int .u8 a, .int .u8 b, .int .u8 c, .int .u8 d] 5)) :=
  conv_new w [a, b, c, d] 4 rfl
theorem cv8 (w : World) (a b c d e f g h : Int) : (convert 67 9 (.slice (some ⟨w.heap.size, 0, none⟩) 8 8)).run Tryd.prog (w.alloc (.cells #[.int .u8 a, .int .u8 b, .int .u8 c, .int .u8 d, .int .u8 e, .int .u8 f, .int .u8 g, .int .u8 h] 5)) = .ok (.string (str [UInt8.ofNat a.toNat, UInt8.ofNat b.toNat, UInt8.ofNat c.toNat, UInt8.ofNat d.toNat, UInt8.ofNat e.toNat, UInt8.ofNat f.toNat, UInt8.ofNat g.toNat, UInt8.ofNat h.toNat])) (w.alloc (.cells #[.int .u8 a, .int .u8 b, .int .u8 c, .int .u8 d, .int .u8 e, .int .u8 f, .int .u8 g, .int .u8 h] 5)) :=
  conv_new w [a, b, c, d, e, f, g, h] 8 rfl

/-- Bytes 0, as many as asked, as a string. -/
def zeroObj (n : Nat) : Obj := .cells ((List.replicate n (0 : Int)).map (Value.int .u8)).toArray 5
theorem mkn (w : World) (x : Int) (h0 : 0 ≤ x) (h1 : x ≤ 281474976710656) : (Instr.makeSlice 67 (.int .i64 x) (.int .i64 x)).run Tryd.prog w = .ok (.slice (some ⟨w.heap.size, 0, none⟩) x.toNat x.toNat) (w.alloc (zeroObj x.toNat)) := by
  have hinfo : (Tryd.prog.info? 5).map (fun i => (i.zero, i.size, i.bytes)) = some (some (.int .u8 0), 1, 1) := by kernel_rfl
  obtain ⟨i0, hi, hz0, hz1, hz2⟩ := info_parts hinfo
  have h := run_make (P := Tryd.prog) w 67 5 i0 (.int .u8 0) Tryd.underlying67 hi hz0 .i64 .i64 x x h0 (Int.le_refl _) (by rw [hz2]; omega) (by omega)
  have e : madeCells (Value.int .u8 0).cells (x.toNat * i0.size) = ((List.replicate x.toNat (0 : Int)).map (Value.int .u8)).toArray := by
    rw [hz1]
    apply Array.ext
    · simp [madeCells]
    · intro j h1 h2; simp [madeCells, Value.cells, Nat.mod_one]
  rw [e] at h
  exact h
theorem cvn (w : World) (n : Nat) : (convert 67 9 (.slice (some ⟨w.heap.size, 0, none⟩) n n)).run Tryd.prog (w.alloc (zeroObj n)) = .ok (.string (str (List.replicate n 0))) (w.alloc (zeroObj n)) := by
  have h := conv_new w (List.replicate n (0 : Int)) n (by simp)
  have e : (List.replicate n (0 : Int)).map (fun x => UInt8.ofNat x.toNat) = List.replicate n 0 := by simp
  rw [e] at h
  exact h
theorem put16_any (n : Nat) (hn : n < 65536) (w : World) :
    Calls Tryd.prog 64 #[.int .u16 n, .int .i64 2] w fun e w' => e = .returned (.string (str (be 2 n))) ∧ Below w.heap.size w w' := by
  have hmk := mk2
  have hcv := cv2
  go_enter Tryd.func64, Tryd.ntmps64
  go_wp2
  go_rounds 3
  go_wp2
  go_ret
  refine ⟨ret_str ?_, (Below.refl _ _).alloc (Nat.le_refl _) _⟩
  simp [be, u8m]
theorem put32_any (n : Nat) (hn : n < 4294967296) (w : World) :
    Calls Tryd.prog 54 #[.int .u32 n, .int .i64 4] w fun e w' => e = .returned (.string (str (be 4 n))) ∧ Below w.heap.size w w' := by
  have hmk := mk4
  have hcv := cv4
  go_enter Tryd.func54, Tryd.ntmps54
  go_wp2
  go_rounds 5
  go_wp2
  go_ret
  refine ⟨ret_str ?_, (Below.refl _ _).alloc (Nat.le_refl _) _⟩
  simp [be, u8m]
theorem put64_any (n : Nat) (hn : n < 18446744073709551616) (w : World) :
    Calls Tryd.prog 43 #[.int .u64 n, .int .i64 8] w fun e w' => e = .returned (.string (str (be 8 n))) ∧ Below w.heap.size w w' := by
  have hmk := mk8
  have hcv := cv8
  go_enter Tryd.func43, Tryd.ntmps43
  go_wp2
  go_rounds 9
  go_wp2
  go_ret
  refine ⟨ret_str ?_, (Below.refl _ _).alloc (Nat.le_refl _) _⟩
  simp [be, u8m]
theorem Two_any (n : Int) (h0 : 0 ≤ n) (h1 : n < 65536) (w : World) :
    Calls Tryd.prog 55 #[.int .u16 n] w fun e w' => e = .returned (.string (str (be 2 n.toNat))) ∧ Below w.heap.size w w' := by
  obtain ⟨m, rfl⟩ := Int.eq_ofNat_of_zero_le h0
  rw [Int.toNat_natCast]
  go_enter Tryd.func55, Tryd.ntmps55
  go_wp2_with (go_at_call 64; refine (put16_any m (by omega) _).mono ?_; rintro e w1 ⟨rfl, hb⟩)
  go_ret
  exact ⟨rfl, hb⟩
theorem Four_any (n : Int) (h0 : 0 ≤ n) (h1 : n < 4294967296) (w : World) :
    Calls Tryd.prog 39 #[.int .u32 n] w fun e w' => e = .returned (.string (str (be 4 n.toNat))) ∧ Below w.heap.size w w' := by
  obtain ⟨m, rfl⟩ := Int.eq_ofNat_of_zero_le h0
  rw [Int.toNat_natCast]
  go_enter Tryd.func39, Tryd.ntmps39
  go_wp2_with (go_at_call 54; refine (put32_any m (by omega) _).mono ?_; rintro e w1 ⟨rfl, hb⟩)
  go_ret
  exact ⟨rfl, hb⟩
theorem Eight_any (n : Int) (h0 : 0 ≤ n) (h1 : n < 18446744073709551616) (w : World) :
    Calls Tryd.prog 24 #[.int .u64 n] w fun e w' => e = .returned (.string (str (be 8 n.toNat))) ∧ Below w.heap.size w w' := by
  obtain ⟨m, rfl⟩ := Int.eq_ofNat_of_zero_le h0
  rw [Int.toNat_natCast]
  go_enter Tryd.func24, Tryd.ntmps24
  go_wp2_with (go_at_call 43; refine (put64_any m (by omega) _).mono ?_; rintro e w1 ⟨rfl, hb⟩)
  go_ret
  exact ⟨rfl, hb⟩
/-! ### texts, sectors -/
theorem Repeat0_any (n : Int) (h0 : 0 ≤ n) (h1 : n ≤ 1099511627776) (w : World) :
    Calls Tryd.prog 61 #[.string ⟨#[0]⟩, .int .i64 n] w fun e w' => e = .returned (.string (str (List.replicate n.toNat 0))) ∧ Below w.heap.size w w' := by
  obtain ⟨m, rfl⟩ := Int.eq_ofNat_of_zero_le h0
  rw [Int.toNat_natCast, ← repeatL_one]
  exact Tryd.strings_Repeat ⟨#[0]⟩ m w (by omega) (by simp [ByteArray.size]; omega)
theorem Fill_any (l : List UInt8) (hl : l.length ≤ maxLen) (w : World) :
    Calls Tryd.prog 42 #[.string (str l)] w fun e w' => e = .returned (.tuple #[.string (str (fillS l)), .int .i64 (fillE l)]) ∧ Below w.heap.size w w' := by
  unfold maxLen at hl
  by_cases h : l.length ≤ 510
  · have e1 : fillS l = be 2 l.length ++ l ++ List.replicate (510 - l.length) 0 := if_pos h
    have e2 : fillE l = 0 := if_pos h
    rw [e1, e2]
    clear e1 e2
    have hbe := be_length 2 l.length
    go_enter Tryd.func42, Tryd.ntmps42
    go_wp2_with (go_at_call 55; refine (Two_any _ (by omega) (by omega) _).mono ?_; rintro e w1 ⟨rfl, hb⟩; rw [Int.toNat_natCast])
    refine (Repeat0_any _ (by omega) (by omega) _).mono ?_
    rintro e w2 ⟨rfl, hb2⟩
    rw [show ((510 : Int) - (l.length : Int)).toNat = 510 - l.length from by omega]
    have hlen := List.length_replicate (n := 510 - l.length) (a := (0 : UInt8))
    go_wp2
    go_ret2
    exact ⟨rfl, hb.trans (hb2.mono hb.size)⟩
  · have e1 : fillS l = [] := if_neg h
    have e2 : fillE l = 11 := if_neg h
    rw [e1, e2]
    clear e1 e2
    go_enter Tryd.func42, Tryd.ntmps42
    go_wp2
    go_ret2
    exact ⟨rfl, Below.refl _ _⟩
/-! ### readers -/
theorem Read_any (l : List UInt8) (w : World) :
    Calls Tryd.prog 45 #[.string (str l)] w fun e w' => e = .returned (.pointer (some ⟨w.heap.size, 0, none⟩)) ∧ Below w.heap.size w w' ∧ Rd w' w.heap.size l false ∧ w'.heap.size = w.heap.size + 1 := by
  go_enter Tryd.func45, Tryd.ntmps45
  go_wp2
  go_ret
  refine ⟨rfl, (Below.refl _ _).alloc (Nat.le_refl _) _, ⟨?_, ?_, ?_, ?_⟩, ?_⟩ <;> simp [go_sem]
theorem fail_any (b : Nat) (l : List UInt8) (br : Bool) (w : World) (h : Rd w b l br) :
    Calls Tryd.prog 49 #[.pointer (some ⟨b, 0, none⟩)] w fun e w' => e = .returned (.tuple #[]) ∧ Mod (· = b) w w' ∧ Rd w' b [] true := by
  have H := Lib.hid h
  obtain ⟨c0, c1, f0, f1⟩ := h
  go_enter Tryd.func49, Tryd.ntmps49
  go_wp2
  go_end0
  exact ⟨rfl, ((Mod.refl _ _).set1 _).set1 _, (H.out.set0 []).set1 true⟩
theorem fail_nil (w : World) :
    Calls Tryd.prog 49 #[.pointer none] w fun e w' => e = .returned (.tuple #[]) ∧ w = w' := by
  go_enter Tryd.func49, Tryd.ntmps49
  go_wp2
  go_end0
  exact ⟨rfl, rfl⟩
theorem take_yes (b : Nat) (l : List UInt8) (br : Bool) (n : Int) (h0 : 0 ≤ n) (hn : n ≤ l.length) (w : World) (h : Rd w b l br) :
    Calls Tryd.prog 48 #[.pointer (some ⟨b, 0, none⟩), .int .i64 n] w fun e w' => e = .returned (.string (str (l.take n.toNat))) ∧ Mod (· = b) w w' ∧ Rd w' b (l.drop n.toNat) br := by
  obtain ⟨n, rfl⟩ := Int.eq_ofNat_of_zero_le h0
  rw [Int.toNat_natCast]
  have H := Lib.hid h
  obtain ⟨c0, c1, f0, f1⟩ := h
  go_enter Tryd.func48, Tryd.ntmps48
  go_wp2
  go_ret
  exact ⟨rfl, (Mod.refl _ _).set1 _, H.out.set0 _⟩
theorem take_no (b : Nat) (l : List UInt8) (br : Bool) (n : Int) (hn : l.length < n) (w : World) (h : Rd w b l br) :
    Calls Tryd.prog 48 #[.pointer (some ⟨b, 0, none⟩), .int .i64 n] w fun e w' => e = .returned (.string (str [])) ∧ Mod (· = b) w w' ∧ Rd w' b [] true := by
  have H := Lib.hid h
  obtain ⟨c0, c1, f0, f1⟩ := h
  go_enter Tryd.func48, Tryd.ntmps48
  go_wp2_with (go_at_call 49; refine (fail_any _ _ _ _ H.out).mono ?_; rintro e w1 ⟨rfl, hm, hr⟩)
  go_ret
  exact ⟨rfl, hm, hr⟩
theorem take_nil (n : Int) (w : World) :
    Calls Tryd.prog 48 #[.pointer none, .int .i64 n] w fun e w' => e = .returned (.string (str [])) ∧ w = w' := by
  go_enter Tryd.func48, Tryd.ntmps48
  go_wp2_with (go_at_call 49; refine (fail_nil _).mono ?_; rintro e w1 ⟨rfl, rfl⟩)
  go_ret
  exact ⟨rfl, rfl⟩
theorem take_any (b : Nat) (l : List UInt8) (br : Bool) (n : Int) (h0 : 0 ≤ n) (w : World) (h : Rd w b l br) :
    Calls Tryd.prog 48 #[.pointer (some ⟨b, 0, none⟩), .int .i64 n] w fun e w' => e = .returned (.string (str (takeS l n.toNat))) ∧ Mod (· = b) w w' ∧ Rd w' b (takeL l n.toNat) (takeB l br n.toNat) := by
  by_cases hn : n.toNat ≤ l.length
  · rw [takeS, takeL, takeB, if_pos hn, if_pos hn, if_pos hn]
    exact take_yes b l br n h0 (by omega) w h
  · rw [takeS, takeL, takeB, if_neg hn, if_neg hn, if_neg hn]
    exact take_no b l br n (by omega) w h
theorem number_any (b : Nat) (l : List UInt8) (br : Bool) (n : Int) (h0 : 0 ≤ n) (h8 : n ≤ 8) (w : World) (h : Rd w b l br) :
    Calls Tryd.prog 47 #[.func (.func 48) #[.pointer (some ⟨b, 0, none⟩)] #[], .int .i64 n] w fun e w' => e = .returned (.int .u64 (num (takeS l n.toNat))) ∧ Mod (· = b) w w' ∧ Rd w' b (takeL l n.toNat) (takeB l br n.toNat) := by
  have H := Lib.hid h
  clear h
  go_enter Tryd.func47, Tryd.ntmps47
  go_wp2_with (go_at_call 48; refine (take_any _ _ _ _ (by omega) _ H.out).mono ?_; rintro e w1 ⟨rfl, hm, hr⟩)
  have Hm := Lib.hid hm
  have Hr := Lib.hid hr
  clear hm hr
  have ht : (takeS l n.toNat).length ≤ 8 := by unfold takeS; split <;> simp; omega
  obtain ⟨t, Ht⟩ : ∃ t, Hid (takeS l n.toNat = t) := ⟨_, rfl⟩
  rw [Ht.out] at ht ⊢
  go_loop [6, 13] (fun a i => ∃ k : Nat, k ≤ t.length ∧ i = .int .i64 k ∧ a = .int .u64 (num (t.take k))) (fun _ i => t.length - (intOf i).toNat)
  case atStart => exact ⟨0, Nat.zero_le _, rfl, rfl⟩
  case round =>
    obtain ⟨k, hk, rfl, rfl⟩ := hrel
    by_cases hlt : k < t.length
    · go_wp2
      go_round
      case rel =>
        refine ⟨k + 1, by omega, by go_num, ?_⟩
        have hb := num_lt (t.take k)
        have hb2 : 256 ^ (t.take k).length ≤ 256 ^ 7 := Nat.pow_le_pow_right (by omega) (by simp; omega)
        rw [or_byte _ _ (by omega) (UInt8.toNat_lt _), take_snoc t k hlt, num_snoc]
      case measure => simp [intOf]; omega
    · go_wp2
      go_ret
      exact ⟨ret_int (by rw [List.take_of_length_le (by omega), Ht.out]), Hm.out, Hr.out⟩
theorem number_nil (n : Int) (w : World) :
    Calls Tryd.prog 47 #[.func (.func 48) #[.pointer none] #[], .int .i64 n] w fun e w' => e = .returned (.int .u64 0) ∧ w = w' := by
  go_enter Tryd.func47, Tryd.ntmps47
  go_wp2_with (go_at_call 48; refine (take_nil _ _).mono ?_; rintro e w1 ⟨rfl, rfl⟩)
  go_rounds 1
  go_ret
  exact ⟨rfl, rfl⟩
theorem RTwo_any (b : Nat) (l : List UInt8) (br : Bool) (w : World) (h : Rd w b l br) :
    Calls Tryd.prog 53 #[.pointer (some ⟨b, 0, none⟩)] w fun e w' => e = .returned (.int .i64 (textN l)) ∧ Mod (· = b) w w' ∧ Rd w' b (takeL l 2) (takeB l br 2) := by
  have H := Lib.hid h
  clear h
  have hb : num (takeS l 2) < 65536 := num_takeS l 2
  go_enter Tryd.func53, Tryd.ntmps53
  go_wp2_with (go_at_call 47; refine (number_any _ _ _ _ (by omega) (by omega) _ H.out).mono ?_; rintro e w1 ⟨rfl, hm, hr⟩)
  go_ret
  exact ⟨rfl, hm, hr⟩
theorem RTwo_nil (w : World) :
    Calls Tryd.prog 53 #[.pointer none] w fun e w' => e = .returned (.int .i64 0) ∧ w = w' := by
  go_enter Tryd.func53, Tryd.ntmps53
  go_wp2_with (go_at_call 47; refine (number_nil _ _).mono ?_; rintro e w1 ⟨rfl, rfl⟩)
  go_ret
  exact ⟨rfl, rfl⟩
theorem RFour_any (b : Nat) (l : List UInt8) (br : Bool) (w : World) (h : Rd w b l br) :
    Calls Tryd.prog 46 #[.pointer (some ⟨b, 0, none⟩)] w fun e w' => e = .returned (.int .i64 (num (takeS l 4))) ∧ Mod (· = b) w w' ∧ Rd w' b (takeL l 4) (takeB l br 4) := by
  have H := Lib.hid h
  clear h
  have hb : num (takeS l 4) < 4294967296 := num_takeS l 4
  go_enter Tryd.func46, Tryd.ntmps46
  go_wp2_with (go_at_call 47; refine (number_any _ _ _ _ (by omega) (by omega) _ H.out).mono ?_; rintro e w1 ⟨rfl, hm, hr⟩)
  go_ret
  exact ⟨rfl, hm, hr⟩
theorem RFour_nil (w : World) :
    Calls Tryd.prog 46 #[.pointer none] w fun e w' => e = .returned (.int .i64 0) ∧ w = w' := by
  go_enter Tryd.func46, Tryd.ntmps46
  go_wp2_with (go_at_call 47; refine (number_nil _ _).mono ?_; rintro e w1 ⟨rfl, rfl⟩)
  go_ret
  exact ⟨rfl, rfl⟩
theorem REight_any (b : Nat) (l : List UInt8) (br : Bool) (most : Int) (hm0 : -9223372036854775808 ≤ most) (hm1 : most ≤ 9223372036854775807) (w : World) (h : Rd w b l br) :
    Calls Tryd.prog 26 #[.pointer (some ⟨b, 0, none⟩), .int .i64 most] w fun e w' => e = .returned (.int .i64 (eightV l most)) ∧ Mod (· = b) w w' ∧ Rd w' b (eightL l most) (eightB l br most) := by
  have H := Lib.hid h
  clear h
  have hb : num (takeS l 8) < 18446744073709551616 := num_takeS l 8
  by_cases hneg : most < 0
  · have hk : eightOk l most = false := by simp [eightOk]; omega
    rw [eightV, eightL, eightB, hk]
    clear hk
    go_enter Tryd.func26, Tryd.ntmps26
    go_wp2_with (first | (go_at_call 47; refine (number_any _ _ _ _ (by omega) (by omega) _ H.out).mono ?_; rintro e w1 ⟨rfl, hm, hr⟩) | (go_at_call 49; refine (fail_any _ _ _ _ (by assumption)).mono ?_; rintro e w2 ⟨rfl, hm2, hr2⟩))
    go_ret
    exact ⟨rfl, hm.trans hm2, hr2⟩
  · by_cases hgt : most < (num (takeS l 8) : Int)
    · have hk : eightOk l most = false := by simp [eightOk]; omega
      rw [eightV, eightL, eightB, hk]
      clear hk
      go_enter Tryd.func26, Tryd.ntmps26
      go_wp2_with (first | (go_at_call 47; refine (number_any _ _ _ _ (by omega) (by omega) _ H.out).mono ?_; rintro e w1 ⟨rfl, hm, hr⟩) | (go_at_call 49; refine (fail_any _ _ _ _ (by assumption)).mono ?_; rintro e w2 ⟨rfl, hm2, hr2⟩))
      go_ret
      exact ⟨rfl, hm.trans hm2, hr2⟩
    · have hk : eightOk l most = true := by simp [eightOk]; omega
      rw [eightV, eightL, eightB, hk]
      clear hk
      go_enter Tryd.func26, Tryd.ntmps26
      go_wp2_with (go_at_call 47; refine (number_any _ _ _ _ (by omega) (by omega) _ H.out).mono ?_; rintro e w1 ⟨rfl, hm, hr⟩)
      go_ret
      exact ⟨rfl, hm, hr⟩
theorem REight_nil (most : Int) (hm0 : -9223372036854775808 ≤ most) (hm1 : most ≤ 9223372036854775807) (w : World) :
    Calls Tryd.prog 26 #[.pointer none, .int .i64 most] w fun e w' => e = .returned (.int .i64 0) ∧ w = w' := by
  by_cases hneg : most < 0
  · go_enter Tryd.func26, Tryd.ntmps26
    go_wp2_with (first | (go_at_call 47; refine (number_nil _ _).mono ?_; rintro e w1 ⟨rfl, rfl⟩) | (go_at_call 49; refine (fail_nil _).mono ?_; rintro e w2 ⟨rfl, rfl⟩))
    go_ret
    exact ⟨rfl, rfl⟩
  · go_enter Tryd.func26, Tryd.ntmps26
    go_wp2_with (go_at_call 47; refine (number_nil _ _).mono ?_; rintro e w1 ⟨rfl, rfl⟩)
    go_ret
    exact ⟨rfl, rfl⟩
theorem Clone_any (l : List UInt8) (hl : l.length ≤ 281474976710656) (w : World) :
    Calls Tryd.prog 72 #[.string (str l)] w fun e w' => e = .returned (.string (str l)) ∧ Below w.heap.size w w' := by
  go_enter Tryd.func72, Tryd.ntmps72
  go_wp2_with (go_at_call 80; refine (Tryd.stringslite_Clone _ _ (by simpa [str, ByteArray.size] using hl)).mono ?_; rintro e w1 ⟨rfl, hb⟩)
  go_ret
  exact ⟨rfl, hb⟩
theorem RText_any (b : Nat) (l : List UInt8) (br : Bool) (w : World) (h : Rd w b l br) :
    Calls Tryd.prog 62 #[.pointer (some ⟨b, 0, none⟩)] w fun e w' => e = .returned (.string (str (rtextS l))) ∧ Mod (· = b) w w' ∧ Rd w' b (rtextL l) (rtextB l br) := by
  have H := Lib.hid h
  clear h
  have hb : textN l < 65536 := num_takeS l 2
  have hs := takeS_le (takeL l 2) (textN l)
  go_enter Tryd.func62, Tryd.ntmps62
  go_wp2_with (go_at_call 53; refine (RTwo_any _ _ _ _ H.out).mono ?_; rintro e w1 ⟨rfl, hm, hr⟩)
  refine (take_any _ _ _ _ (by omega) _ hr).mono ?_
  rintro e w2 ⟨rfl, hm2, hr2⟩
  rw [Int.toNat_natCast] at *
  go_wp2_with fail
  refine (Clone_any _ (by omega) _).mono ?_
  rintro e w3 ⟨rfl, hb3⟩
  have Hr2 := Lib.hid hr2
  have Hm := Lib.hid (hm.trans hm2)
  clear hr hr2 hm hm2
  go_wp2
  go_ret
  have hb3' : Mod (fun _ => False) w2 w3 := .of_below hb3
  exact ⟨rfl, Hm.out.trans (hb3'.mono fun _ _ h => h.elim), Hr2.out.later hb3' id⟩
theorem RText_nil (w : World) :
    Calls Tryd.prog 62 #[.pointer none] w fun e w' => e = .returned (.string (str [])) ∧ Below w.heap.size w w' := by
  go_enter Tryd.func62, Tryd.ntmps62
  go_wp2_with (first | (go_at_call 53; refine (RTwo_nil _).mono ?_; rintro e w1 ⟨rfl, rfl⟩) | (go_at_call 48; refine (take_nil _ _).mono ?_; rintro e w1 ⟨rfl, rfl⟩) | (go_at_call 72; refine (Clone_any [] (by simp) _).mono ?_; rintro e w3 ⟨rfl, hb3⟩))
  go_ret
  exact ⟨rfl, hb3⟩
theorem Open_any (l : List UInt8) (w : World) :
    Calls Tryd.prog 44 #[.string (str l)] w fun e w' => e = .returned (.tuple #[.string (str (openS l)), .bool (openOk l)]) ∧ Below w.heap.size w w' := by
  have hs := rtextS_le l
  obtain ⟨q, Hq⟩ : ∃ q, Hid (openOk l = q) := ⟨_, rfl⟩
  have hc : ((fillE (rtextS l) != 0) = false ∧ (fillS (rtextS l) == l) = true ∧ q = true) ∨ ((fillE (rtextS l) != 0) = false ∧ (fillS (rtextS l) == l) = false ∧ q = false) ∨ ((fillE (rtextS l) != 0) = true ∧ q = false) := by
    rw [← Hq.out, openOk]
    by_cases h1 : fillE (rtextS l) = 0 <;> cases h2 : fillS (rtextS l) == l <;> simp [h1]
  rcases hc with ⟨q1, q2, rfl⟩ | ⟨q1, q2, rfl⟩ | ⟨q1, rfl⟩
  all_goals
    go_enter Tryd.func44, Tryd.ntmps44
    go_wp2_with fail
    refine (Read_any _ _).mono ?_
    rintro e w1 ⟨rfl, hb1, hr1, hz1⟩
    go_wp2_with fail
    refine (RText_any _ _ _ _ hr1).mono ?_
    rintro e w2 ⟨rfl, hm2, hr2⟩
    have Hb2 := Lib.hid (hm2.below hb1 hb1.size (by rintro i rfl; omega))
    clear hr1 hr2 hm2 hz1
    go_wp2_with fail
    refine (Fill_any _ (by unfold maxLen; omega) _).mono ?_
    rintro e w3 ⟨rfl, hb3⟩
    go_wp2
    go_ret2
    refine ⟨?_, Hb2.out.trans (hb3.mono Hb2.out.size)⟩
    rw [openS, Hq.out]
    rfl
end Go.Proofs.YtgncmgchoogmpaaDoor
