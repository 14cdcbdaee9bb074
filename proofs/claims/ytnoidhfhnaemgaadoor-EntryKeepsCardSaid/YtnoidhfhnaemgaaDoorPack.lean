
/- What each function of package pack gives, at this translation: numbers and texts put, read, filled and opened. -/
import Derived.Test.YtnoidhfhnaemgaaDoorRep0
import Derived.Test.YtnoidhfhnaemgaaDoorZer
import Derived.Test.YtnoidhfhnaemgaaDoorChecked
import Derived.Test.YtnoidhfhnaemgaaDoorBase
import Derived.Test.YtnoidhfhnaemgaaDoorShelf
namespace Go.Proofs.YtnoidhfhnaemgaaDoor
open Go.RowKit

/-! ### numbers are put -/
theorem mk2 (w : World) : (Instr.makeSlice 78 (.int .i64 2) (.int .i64 2)).run Tryd.prog w = .ok (.slice (some ⟨w.heap.size, 0, none⟩) 2 2) (w.alloc (.cells #[.int .u8 0, .int .u8 0] 5)) := by kernel_rfl
theorem mk4 (w : World) : (Instr.makeSlice 78 (.int .i64 4) (.int .i64 4)).run Tryd.prog w = .ok (.slice (some ⟨w.heap.size, 0, none⟩) 4 4) (w.alloc (.cells #[.int .u8 0, .int .u8 0, .int .u8 0, .int .u8 0] 5)) := by kernel_rfl
theorem mk8 (w : World) : (Instr.makeSlice 78 (.int .i64 8) (.int .i64 8)).run Tryd.prog w = .ok (.slice (some ⟨w.heap.size, 0, none⟩) 8 8) (w.alloc (.cells #[.int .u8 0, .int .u8 0, .int .u8 0, .int .u8 0, .int .u8 0, .int .u8 0, .int .u8 0, .int .u8 0] 5)) := by kernel_rfl
theorem cv2 (w : World) (a b : Int) : (convert 78 9 (.slice (some ⟨w.heap.size, 0, none⟩) 2 2)).run Tryd.prog (w.alloc (.cells #[.int .u8 a, .int .u8 b] 5)) = .ok (.string (str [UInt8.ofNat a.toNat, UInt8.ofNat b.toNat])) (w.alloc (.cells #[.int .u8 a, .int .u8 b] 5)) :=
  conv_new w [a, b] 2 rfl
theorem cv4 (w : World) (a b c d : Int) : (convert 78 9 (.slice (some ⟨w.heap.size, 0, none⟩) 4 4)).run Tryd.prog (w.alloc (.cells #[.int .u8 a, .int .u8 b, .int .u8 c, .int .u8 d] 5)) = .ok (.string (str [UInt8.ofNat a.toNat, UInt8.ofNat b.toNat, UInt8.ofNat c.toNat, UInt8.ofNat d.toNat])) (w.alloc (.cells #[.int .u8 a, .int .u8 b, .int .u8 c, .int .u8 d] 5)) :=
  conv_new w [a, b, c, d] 4 rfl
theorem cv8 (w : World) (a b c d e f g h : Int) : (convert 78 9 (.slice (some ⟨w.heap.size, 0, none⟩) 8 8)).run Tryd.prog (w.alloc (.cells #[.int .u8 a, .int .u8 b, .int .u8 c, .int .u8 d, .int .u8 e, .int .u8 f, .int .u8 g, .int .u8 h] 5)) = .ok (.string (str [UInt8.ofNat a.toNat, UInt8.ofNat b.toNat, UInt8.ofNat c.toNat, UInt8.ofNat d.toNat, UInt8.ofNat e.toNat, UInt8.ofNat f.toNat, UInt8.ofNat g.toNat, UInt8.ofNat h.toNat])) (w.alloc (.cells #[.int .u8 a, .int .u8 b, .int .u8 c, .int .u8 d, .int .u8 e, .int .u8 f, .int .u8 g, .int .u8 h] 5)) :=
  conv_new w [a, b, c, d, e, f, g, h] 8 rfl

theorem cvn (w : World) (n : Nat) : (convert 78 9 (.slice (some ⟨w.heap.size, 0, none⟩) n n)).run Tryd.prog (w.alloc (zeroObj n)) = .ok (.string (str (List.replicate n 0))) (w.alloc (zeroObj n)) := by
  have h := conv_new w (List.replicate n (0 : Int)) n (by simp)
  have e : (List.replicate n (0 : Int)).map (fun x => UInt8.ofNat x.toNat) = List.replicate n 0 := by simp
  rw [e] at h
  exact h
theorem put16_any (n : Nat) (hn : n < 65536) (w : World) :
    Calls Tryd.prog 75 #[.int .u16 n, .int .i64 2] w fun e w' => e = .returned (.string (str (be 2 n))) ∧ Below w.heap.size w w' := by
  have hmk := mk2
  have hcv := cv2
  go_enter Tryd.func75, Tryd.ntmps75
  go_wp2
  go_rounds 3
  go_wp2
  go_ret
  refine ⟨ret_str ?_, (Below.refl _ _).alloc (Nat.le_refl _) _⟩
  simp [be, u8m]
theorem put32_any (n : Nat) (hn : n < 4294967296) (w : World) :
    Calls Tryd.prog 58 #[.int .u32 n, .int .i64 4] w fun e w' => e = .returned (.string (str (be 4 n))) ∧ Below w.heap.size w w' := by
  have hmk := mk4
  have hcv := cv4
  go_enter Tryd.func58, Tryd.ntmps58
  go_wp2
  go_rounds 5
  go_wp2
  go_ret
  refine ⟨ret_str ?_, (Below.refl _ _).alloc (Nat.le_refl _) _⟩
  simp [be, u8m]
theorem Two_any (n : Int) (h0 : 0 ≤ n) (h1 : n < 65536) (w : World) :
    Calls Tryd.prog 57 #[.int .u16 n] w fun e w' => e = .returned (.string (str (be 2 n.toNat))) ∧ Below w.heap.size w w' := by
  obtain ⟨m, rfl⟩ := Int.eq_ofNat_of_zero_le h0
  rw [Int.toNat_natCast]
  go_enter Tryd.func57, Tryd.ntmps57
  go_wp2_with (go_at_call 75; refine (put16_any m (by omega) _).mono ?_; rintro e w1 ⟨rfl, hb⟩)
  go_ret
  exact ⟨rfl, hb⟩
theorem Four_any (n : Int) (h0 : 0 ≤ n) (h1 : n < 4294967296) (w : World) :
    Calls Tryd.prog 36 #[.int .u32 n] w fun e w' => e = .returned (.string (str (be 4 n.toNat))) ∧ Below w.heap.size w w' := by
  obtain ⟨m, rfl⟩ := Int.eq_ofNat_of_zero_le h0
  rw [Int.toNat_natCast]
  go_enter Tryd.func36, Tryd.ntmps36
  go_wp2_with (go_at_call 58; refine (put32_any m (by omega) _).mono ?_; rintro e w1 ⟨rfl, hb⟩)
  go_ret
  exact ⟨rfl, hb⟩
/-! ### texts, sectors -/
theorem Text_any (l : List UInt8) (hl : l.length ≤ maxLen) (w : World) :
    Calls Tryd.prog 35 #[.string (str l)] w fun e w' => e = .returned (.tuple #[.string (str (textS l)), .int .i64 (textE l)]) ∧ Below w.heap.size w w' := by
  unfold maxLen at hl
  by_cases h : l.length ≤ 65535
  · have e1 : textS l = be 2 l.length ++ l := if_pos h
    have e2 : textE l = 0 := if_pos h
    rw [e1, e2]
    clear e1 e2
    have hbe := be_length 2 l.length
    go_enter Tryd.func35, Tryd.ntmps35
    go_wp2_with (go_at_call 57; refine (Two_any _ (by omega) (by omega) _).mono ?_; rintro e w1 ⟨rfl, hb⟩; rw [Int.toNat_natCast])
    go_ret2
    exact ⟨rfl, hb⟩
  · have e1 : textS l = [] := if_neg h
    have e2 : textE l = 11 := if_neg h
    rw [e1, e2]
    clear e1 e2
    go_enter Tryd.func35, Tryd.ntmps35
    go_wp2
    go_ret2
    exact ⟨rfl, Below.refl _ _⟩
/-! ### readers -/
theorem Read_any (l : List UInt8) (w : World) :
    Calls Tryd.prog 41 #[.string (str l)] w fun e w' => e = .returned (.pointer (some ⟨w.heap.size, 0, none⟩)) ∧ Below w.heap.size w w' ∧ Rd w' w.heap.size l false ∧ w'.heap.size = w.heap.size + 1 := by
  go_enter Tryd.func41, Tryd.ntmps41
  go_wp2
  go_ret
  refine ⟨rfl, (Below.refl _ _).alloc (Nat.le_refl _) _, ⟨?_, ?_, ?_, ?_⟩, ?_⟩ <;> simp [go_sem]
theorem fail_any (b : Nat) (l : List UInt8) (br : Bool) (w : World) (h : Rd w b l br) :
    Calls Tryd.prog 79 #[.pointer (some ⟨b, 0, none⟩)] w fun e w' => e = .returned (.tuple #[]) ∧ Mod (· = b) w w' ∧ Rd w' b [] true := by
  have H := Lib.hid h
  obtain ⟨c0, c1, f0, f1⟩ := h
  go_enter Tryd.func79, Tryd.ntmps79
  go_wp2
  go_end0
  exact ⟨rfl, ((Mod.refl _ _).set1 _).set1 _, (H.out.set0 []).set1 true⟩
theorem fail_nil (w : World) :
    Calls Tryd.prog 79 #[.pointer none] w fun e w' => e = .returned (.tuple #[]) ∧ w = w' := by
  go_enter Tryd.func79, Tryd.ntmps79
  go_wp2
  go_end0
  exact ⟨rfl, rfl⟩
theorem take_yes (b : Nat) (l : List UInt8) (br : Bool) (n : Int) (h0 : 0 ≤ n) (hn : n ≤ l.length) (w : World) (h : Rd w b l br) :
    Calls Tryd.prog 63 #[.pointer (some ⟨b, 0, none⟩), .int .i64 n] w fun e w' => e = .returned (.string (str (l.take n.toNat))) ∧ Mod (· = b) w w' ∧ Rd w' b (l.drop n.toNat) br := by
  obtain ⟨n, rfl⟩ := Int.eq_ofNat_of_zero_le h0
  rw [Int.toNat_natCast]
  have H := Lib.hid h
  obtain ⟨c0, c1, f0, f1⟩ := h
  go_enter Tryd.func63, Tryd.ntmps63
  go_wp2
  go_ret
  exact ⟨rfl, (Mod.refl _ _).set1 _, H.out.set0 _⟩
theorem take_no (b : Nat) (l : List UInt8) (br : Bool) (n : Int) (hn : l.length < n) (w : World) (h : Rd w b l br) :
    Calls Tryd.prog 63 #[.pointer (some ⟨b, 0, none⟩), .int .i64 n] w fun e w' => e = .returned (.string (str [])) ∧ Mod (· = b) w w' ∧ Rd w' b [] true := by
  have H := Lib.hid h
  obtain ⟨c0, c1, f0, f1⟩ := h
  go_enter Tryd.func63, Tryd.ntmps63
  go_wp2_with (go_at_call 79; refine (fail_any _ _ _ _ H.out).mono ?_; rintro e w1 ⟨rfl, hm, hr⟩)
  go_ret
  exact ⟨rfl, hm, hr⟩
theorem take_nil (n : Int) (w : World) :
    Calls Tryd.prog 63 #[.pointer none, .int .i64 n] w fun e w' => e = .returned (.string (str [])) ∧ w = w' := by
  go_enter Tryd.func63, Tryd.ntmps63
  go_wp2_with (go_at_call 79; refine (fail_nil _).mono ?_; rintro e w1 ⟨rfl, rfl⟩)
  go_ret
  exact ⟨rfl, rfl⟩
theorem take_any (b : Nat) (l : List UInt8) (br : Bool) (n : Int) (h0 : 0 ≤ n) (w : World) (h : Rd w b l br) :
    Calls Tryd.prog 63 #[.pointer (some ⟨b, 0, none⟩), .int .i64 n] w fun e w' => e = .returned (.string (str (takeS l n.toNat))) ∧ Mod (· = b) w w' ∧ Rd w' b (takeL l n.toNat) (takeB l br n.toNat) := by
  by_cases hn : n.toNat ≤ l.length
  · rw [takeS, takeL, takeB, if_pos hn, if_pos hn, if_pos hn]
    exact take_yes b l br n h0 (by omega) w h
  · rw [takeS, takeL, takeB, if_neg hn, if_neg hn, if_neg hn]
    exact take_no b l br n (by omega) w h
theorem number_any (b : Nat) (l : List UInt8) (br : Bool) (n : Int) (h0 : 0 ≤ n) (h8 : n ≤ 8) (w : World) (h : Rd w b l br) :
    Calls Tryd.prog 65 #[.func (.func 63) #[.pointer (some ⟨b, 0, none⟩)] #[], .int .i64 n] w fun e w' => e = .returned (.int .u64 (num (takeS l n.toNat))) ∧ Mod (· = b) w w' ∧ Rd w' b (takeL l n.toNat) (takeB l br n.toNat) := by
  have H := Lib.hid h
  clear h
  go_enter Tryd.func65, Tryd.ntmps65
  go_wp2_with (go_at_call 63; refine (take_any _ _ _ _ (by omega) _ H.out).mono ?_; rintro e w1 ⟨rfl, hm, hr⟩)
  have Hm := Lib.hid hm
  have Hr := Lib.hid hr
  clear hm hr
  have ht : (takeS l n.toNat).length ≤ 8 := by unfold takeS; split <;> simp; omega
  obtain ⟨t, Ht⟩ : ∃ t, Hid (takeS l n.toNat = t) := ⟨_, rfl⟩
  rw [Ht.out] at ht ⊢
  go_loop [6, 13] (fun a i => ∃ k : Nat, k ≤ t.length ∧ i = .int .i64 k ∧ a = .int .u64 (num (t.take k))) (fun _ i => t.length - (intOf i).toNat)
  case atStart => exact ⟨0, Nat.zero_le _, rfl, rfl⟩
  case round =>
    obtain ⟨k, hk, rfl, rfl⟩ := hrel
    by_cases hlt : k < t.length
    · go_wp2
      go_round
      case rel =>
        refine ⟨k + 1, by omega, by go_num, ?_⟩
        have hb := num_lt (t.take k)
        have hb2 : 256 ^ (t.take k).length ≤ 256 ^ 7 := Nat.pow_le_pow_right (by omega) (by simp; omega)
        rw [or_byte _ _ (by omega) (UInt8.toNat_lt _), take_snoc t k hlt, num_snoc]
      case measure => simp [intOf]; omega
    · go_wp2
      go_ret
      exact ⟨ret_int (by rw [List.take_of_length_le (by omega), Ht.out]), Hm.out, Hr.out⟩
theorem number_nil (n : Int) (w : World) :
    Calls Tryd.prog 65 #[.func (.func 63) #[.pointer none] #[], .int .i64 n] w fun e w' => e = .returned (.int .u64 0) ∧ w = w' := by
  go_enter Tryd.func65, Tryd.ntmps65
  go_wp2_with (go_at_call 63; refine (take_nil _ _).mono ?_; rintro e w1 ⟨rfl, rfl⟩)
  go_rounds 1
  go_ret
  exact ⟨rfl, rfl⟩
theorem RTwo_any (b : Nat) (l : List UInt8) (br : Bool) (w : World) (h : Rd w b l br) :
    Calls Tryd.prog 64 #[.pointer (some ⟨b, 0, none⟩)] w fun e w' => e = .returned (.int .i64 (textN l)) ∧ Mod (· = b) w w' ∧ Rd w' b (takeL l 2) (takeB l br 2) := by
  have H := Lib.hid h
  clear h
  have hb : num (takeS l 2) < 65536 := num_takeS l 2
  go_enter Tryd.func64, Tryd.ntmps64
  go_wp2_with (go_at_call 65; refine (number_any _ _ _ _ (by omega) (by omega) _ H.out).mono ?_; rintro e w1 ⟨rfl, hm, hr⟩)
  go_ret
  exact ⟨rfl, hm, hr⟩
theorem RTwo_nil (w : World) :
    Calls Tryd.prog 64 #[.pointer none] w fun e w' => e = .returned (.int .i64 0) ∧ w = w' := by
  go_enter Tryd.func64, Tryd.ntmps64
  go_wp2_with (go_at_call 65; refine (number_nil _ _).mono ?_; rintro e w1 ⟨rfl, rfl⟩)
  go_ret
  exact ⟨rfl, rfl⟩
theorem RFour_any (b : Nat) (l : List UInt8) (br : Bool) (w : World) (h : Rd w b l br) :
    Calls Tryd.prog 44 #[.pointer (some ⟨b, 0, none⟩)] w fun e w' => e = .returned (.int .i64 (num (takeS l 4))) ∧ Mod (· = b) w w' ∧ Rd w' b (takeL l 4) (takeB l br 4) := by
  have H := Lib.hid h
  clear h
  have hb : num (takeS l 4) < 4294967296 := num_takeS l 4
  go_enter Tryd.func44, Tryd.ntmps44
  go_wp2_with (go_at_call 65; refine (number_any _ _ _ _ (by omega) (by omega) _ H.out).mono ?_; rintro e w1 ⟨rfl, hm, hr⟩)
  go_ret
  exact ⟨rfl, hm, hr⟩
theorem RFour_nil (w : World) :
    Calls Tryd.prog 44 #[.pointer none] w fun e w' => e = .returned (.int .i64 0) ∧ w = w' := by
  go_enter Tryd.func44, Tryd.ntmps44
  go_wp2_with (go_at_call 65; refine (number_nil _ _).mono ?_; rintro e w1 ⟨rfl, rfl⟩)
  go_ret
  exact ⟨rfl, rfl⟩
theorem Clone_any (l : List UInt8) (hl : l.length ≤ 281474976710656) (w : World) :
    Calls Tryd.prog 62 #[.string (str l)] w fun e w' => e = .returned (.string (str l)) ∧ Below w.heap.size w w' := by
  go_enter Tryd.func62, Tryd.ntmps62
  go_wp2_with (go_at_call 78; refine (Tryd.stringslite_Clone _ _ (by simpa [str, ByteArray.size] using hl)).mono ?_; rintro e w1 ⟨rfl, hb⟩)
  go_ret
  exact ⟨rfl, hb⟩
theorem RText_any (b : Nat) (l : List UInt8) (br : Bool) (w : World) (h : Rd w b l br) :
    Calls Tryd.prog 43 #[.pointer (some ⟨b, 0, none⟩)] w fun e w' => e = .returned (.string (str (rtextS l))) ∧ Mod (· = b) w w' ∧ Rd w' b (rtextL l) (rtextB l br) := by
  have H := Lib.hid h
  clear h
  have hb : textN l < 65536 := num_takeS l 2
  have hs := takeS_le (takeL l 2) (textN l)
  go_enter Tryd.func43, Tryd.ntmps43
  go_wp2_with (go_at_call 64; refine (RTwo_any _ _ _ _ H.out).mono ?_; rintro e w1 ⟨rfl, hm, hr⟩)
  refine (take_any _ _ _ _ (by omega) _ hr).mono ?_
  rintro e w2 ⟨rfl, hm2, hr2⟩
  rw [Int.toNat_natCast] at *
  go_wp2_with fail
  refine (Clone_any _ (by omega) _).mono ?_
  rintro e w3 ⟨rfl, hb3⟩
  have Hr2 := Lib.hid hr2
  have Hm := Lib.hid (hm.trans hm2)
  clear hr hr2 hm hm2
  go_wp2
  go_ret
  have hb3' : Mod (fun _ => False) w2 w3 := .of_below hb3
  exact ⟨rfl, Hm.out.trans (hb3'.mono fun _ _ h => h.elim), Hr2.out.later hb3' id⟩
theorem RText_nil (w : World) :
    Calls Tryd.prog 43 #[.pointer none] w fun e w' => e = .returned (.string (str [])) ∧ Below w.heap.size w w' := by
  go_enter Tryd.func43, Tryd.ntmps43
  go_wp2_with (first | (go_at_call 64; refine (RTwo_nil _).mono ?_; rintro e w1 ⟨rfl, rfl⟩) | (go_at_call 63; refine (take_nil _ _).mono ?_; rintro e w1 ⟨rfl, rfl⟩) | (go_at_call 62; refine (Clone_any [] (by simp) _).mono ?_; rintro e w3 ⟨rfl, hb3⟩))
  go_ret
  exact ⟨rfl, hb3⟩
theorem Left_any (b : Nat) (l : List UInt8) (br : Bool) (w : World) (h : Rd w b l br) :
    Calls Tryd.prog 42 #[.pointer (some ⟨b, 0, none⟩)] w fun e w' => e = .returned (.int .i64 l.length) ∧ w = w' := by
  obtain ⟨c0, c1, f0, f1⟩ := h
  go_enter Tryd.func42, Tryd.ntmps42
  go_wp2
  go_ret
  exact ⟨rfl, rfl⟩
theorem Left_nil (w : World) :
    Calls Tryd.prog 42 #[.pointer none] w fun e w' => e = .returned (.int .i64 0) ∧ w = w' := by
  go_enter Tryd.func42, Tryd.ntmps42
  go_wp2
  go_ret
  exact ⟨rfl, rfl⟩
end Go.Proofs.YtnoidhfhnaemgaaDoor
