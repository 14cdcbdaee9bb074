/- Readers of package pack, as far as views are read. -/
import Derived.Test.YtnbhjehaecifcaaChecked
import Derived.Test.YtnbhjehaecifcaaClose
namespace Go.Proofs.Ytnbhjehaecifcaa
open Go.RowKit

theorem PRead_any (l : List UInt8) (w : World) :
    Calls Try.prog 27 #[.string (str l)] w fun e w' => e = .returned (.pointer (some ⟨w.heap.size, 0, none⟩)) ∧ Below w.heap.size w w' ∧ Rd w' w.heap.size l false ∧ w'.heap.size = w.heap.size + 1 := by
  go_enter Try.func27, Try.ntmps27
  go_wp2
  go_ret
  refine ⟨rfl, (Below.refl _ _).alloc (Nat.le_refl _) _, ⟨?_, ?_, ?_, ?_⟩, ?_⟩ <;> simp [go_sem]
theorem fail_any (b : Nat) (l : List UInt8) (br : Bool) (w : World) (h : Rd w b l br) :
    Calls Try.prog 58 #[.pointer (some ⟨b, 0, none⟩)] w fun e w' => e = .returned (.tuple #[]) ∧ Mod (· = b) w w' ∧ Rd w' b [] true := by
  have H := Lib.hid h
  obtain ⟨c0, c1, f0, f1⟩ := h
  go_enter Try.func58, Try.ntmps58
  go_wp2
  go_end0
  exact ⟨rfl, ((Mod.refl _ _).set1 _).set1 _, (H.out.set0 []).set1 true⟩
theorem take_yes (b : Nat) (l : List UInt8) (br : Bool) (n : Int) (h0 : 0 ≤ n) (hn : n ≤ l.length) (w : World) (h : Rd w b l br) :
    Calls Try.prog 57 #[.pointer (some ⟨b, 0, none⟩), .int .i64 n] w fun e w' => e = .returned (.string (str (l.take n.toNat))) ∧ Mod (· = b) w w' ∧ Rd w' b (l.drop n.toNat) br := by
  obtain ⟨n, rfl⟩ := Int.eq_ofNat_of_zero_le h0
  rw [Int.toNat_natCast]
  have H := Lib.hid h
  obtain ⟨c0, c1, f0, f1⟩ := h
  go_enter Try.func57, Try.ntmps57
  go_wp2
  go_ret
  exact ⟨rfl, (Mod.refl _ _).set1 _, H.out.set0 _⟩
theorem take_no (b : Nat) (l : List UInt8) (br : Bool) (n : Int) (hn : l.length < n) (w : World) (h : Rd w b l br) :
    Calls Try.prog 57 #[.pointer (some ⟨b, 0, none⟩), .int .i64 n] w fun e w' => e = .returned (.string (str [])) ∧ Mod (· = b) w w' ∧ Rd w' b [] true := by
  have H := Lib.hid h
  obtain ⟨c0, c1, f0, f1⟩ := h
  go_enter Try.func57, Try.ntmps57
  go_wp2_with (go_at_call 58; refine (fail_any _ _ _ _ H.out).mono ?_; rintro e w1 ⟨rfl, hm, hr⟩)
  go_ret
  exact ⟨rfl, hm, hr⟩
theorem take_any (b : Nat) (l : List UInt8) (br : Bool) (n : Int) (h0 : 0 ≤ n) (w : World) (h : Rd w b l br) :
    Calls Try.prog 57 #[.pointer (some ⟨b, 0, none⟩), .int .i64 n] w fun e w' => e = .returned (.string (str (takeS l n.toNat))) ∧ Mod (· = b) w w' ∧ Rd w' b (takeL l n.toNat) (takeB l br n.toNat) := by
  by_cases hn : n.toNat ≤ l.length
  · rw [takeS, takeL, takeB, if_pos hn, if_pos hn, if_pos hn]
    exact take_yes b l br n h0 (by omega) w h
  · rw [takeS, takeL, takeB, if_neg hn, if_neg hn, if_neg hn]
    exact take_no b l br n (by omega) w h
theorem number_any (b : Nat) (l : List UInt8) (br : Bool) (n : Int) (h0 : 0 ≤ n) (h8 : n ≤ 8) (w : World) (h : Rd w b l br) :
    Calls Try.prog 56 #[.func (.func 57) #[.pointer (some ⟨b, 0, none⟩)] #[], .int .i64 n] w fun e w' => e = .returned (.int .u64 (num (takeS l n.toNat))) ∧ Mod (· = b) w w' ∧ Rd w' b (takeL l n.toNat) (takeB l br n.toNat) := by
  have H := Lib.hid h
  clear h
  go_enter Try.func56, Try.ntmps56
  go_wp2_with (go_at_call 57; refine (take_any _ _ _ _ (by omega) _ H.out).mono ?_; rintro e w1 ⟨rfl, hm, hr⟩)
  have Hm := Lib.hid hm
  have Hr := Lib.hid hr
  clear hm hr
  have ht : (takeS l n.toNat).length ≤ 8 := by unfold takeS; split <;> simp; omega
  obtain ⟨t, Ht⟩ : ∃ t, Hid (takeS l n.toNat = t) := ⟨_, rfl⟩
  rw [Ht.out] at ht ⊢
  go_loop [6, 13] (fun a i => ∃ k : Nat, k ≤ t.length ∧ i = .int .i64 k ∧ a = .int .u64 (num (t.take k))) (fun _ i => t.length - (intOf i).toNat)
  case atStart => exact ⟨0, Nat.zero_le _, rfl, rfl⟩
  case round =>
    obtain ⟨k, hk, rfl, rfl⟩ := hrel
    by_cases hlt : k < t.length
    · go_wp2
      go_round
      case rel =>
        refine ⟨k + 1, by omega, by go_num, ?_⟩
        have hb := num_lt (t.take k)
        have hb2 : 256 ^ (t.take k).length ≤ 256 ^ 7 := Nat.pow_le_pow_right (by omega) (by simp; omega)
        rw [or_byte _ _ (by omega) (UInt8.toNat_lt _), take_snoc t k hlt, num_snoc]
      case measure => simp [intOf]; omega
    · go_wp2
      go_ret
      exact ⟨ret_int (by rw [List.take_of_length_le (by omega), Ht.out]), Hm.out, Hr.out⟩
theorem RTwo_any (b : Nat) (l : List UInt8) (br : Bool) (w : World) (h : Rd w b l br) :
    Calls Try.prog 31 #[.pointer (some ⟨b, 0, none⟩)] w fun e w' => e = .returned (.int .i64 (textN l)) ∧ Mod (· = b) w w' ∧ Rd w' b (takeL l 2) (takeB l br 2) := by
  have H := Lib.hid h
  clear h
  have hb : num (takeS l 2) < 65536 := num_takeS l 2
  go_enter Try.func31, Try.ntmps31
  go_wp2_with (go_at_call 56; refine (number_any _ _ _ _ (by omega) (by omega) _ H.out).mono ?_; rintro e w1 ⟨rfl, hm, hr⟩)
  go_ret
  exact ⟨rfl, hm, hr⟩
theorem REight_any (b : Nat) (l : List UInt8) (br : Bool) (most : Int) (hm0 : -9223372036854775808 ≤ most) (hm1 : most ≤ 9223372036854775807) (w : World) (h : Rd w b l br) :
    Calls Try.prog 29 #[.pointer (some ⟨b, 0, none⟩), .int .i64 most] w fun e w' => e = .returned (.int .i64 (eightV l most)) ∧ Mod (· = b) w w' ∧ Rd w' b (eightL l most) (eightB l br most) := by
  have H := Lib.hid h
  clear h
  have hb : num (takeS l 8) < 18446744073709551616 := num_takeS l 8
  by_cases hneg : most < 0
  · have hk : eightOk l most = false := by simp [eightOk]; omega
    rw [eightV, eightL, eightB, hk]
    clear hk
    go_enter Try.func29, Try.ntmps29
    go_wp2_with (first | (go_at_call 56; refine (number_any _ _ _ _ (by omega) (by omega) _ H.out).mono ?_; rintro e w1 ⟨rfl, hm, hr⟩) | (go_at_call 58; refine (fail_any _ _ _ _ (by assumption)).mono ?_; rintro e w2 ⟨rfl, hm2, hr2⟩))
    go_ret
    exact ⟨rfl, hm.trans hm2, hr2⟩
  · by_cases hgt : most < (num (takeS l 8) : Int)
    · have hk : eightOk l most = false := by simp [eightOk]; omega
      rw [eightV, eightL, eightB, hk]
      clear hk
      go_enter Try.func29, Try.ntmps29
      go_wp2_with (first | (go_at_call 56; refine (number_any _ _ _ _ (by omega) (by omega) _ H.out).mono ?_; rintro e w1 ⟨rfl, hm, hr⟩) | (go_at_call 58; refine (fail_any _ _ _ _ (by assumption)).mono ?_; rintro e w2 ⟨rfl, hm2, hr2⟩))
      go_ret
      exact ⟨rfl, hm.trans hm2, hr2⟩
    · have hk : eightOk l most = true := by simp [eightOk]; omega
      rw [eightV, eightL, eightB, hk]
      clear hk
      go_enter Try.func29, Try.ntmps29
      go_wp2_with (go_at_call 56; refine (number_any _ _ _ _ (by omega) (by omega) _ H.out).mono ?_; rintro e w1 ⟨rfl, hm, hr⟩)
      go_ret
      exact ⟨rfl, hm, hr⟩
end Go.Proofs.Ytnbhjehaecifcaa
