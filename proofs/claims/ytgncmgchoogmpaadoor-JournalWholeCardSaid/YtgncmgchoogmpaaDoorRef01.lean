
/- What each function of the document's answer for layer 1 gives, at this translation. -/
import Derived.Test.YtgncmgchoogmpaaDoorPack
namespace Go.Proofs.YtgncmgchoogmpaaDoor
open Go.RowKit

theorem bs1 (w : World) (n : Nat) (a : Int) (hn : n = w.heap.size) : (convert 67 9 (.slice (some ⟨n, 0, none⟩) 1 1)).run Tryd.prog (w.alloc (.cells #[.int .u8 a] 5)) = .ok (.string (str [UInt8.ofNat a.toNat])) (w.alloc (.cells #[.int .u8 a] 5)) := by
  subst hn
  exact conv_new w [a] 1 rfl
theorem Num2_any (n : Int) (h0 : 0 ≤ n) (h1 : n < 18446744073709551616) (w : World) :
    Calls Tryd.prog 31 #[.int .u64 n, .int .i64 2] w fun e w' => e = .returned (.string (str (be 2 n.toNat))) ∧ Below w.heap.size w w' := by
  obtain ⟨m, rfl⟩ := Int.eq_ofNat_of_zero_le h0
  rw [Int.toNat_natCast]
  have hbs := bs1
  go_enter Tryd.func31, Tryd.ntmps31
  go_wp2
  go_rounds 3
  go_wp2
  go_ret
  refine ⟨ret_str (by simp [be, u8m]), ?_⟩
  go_grown
theorem Num4_any (n : Int) (h0 : 0 ≤ n) (h1 : n < 18446744073709551616) (w : World) :
    Calls Tryd.prog 31 #[.int .u64 n, .int .i64 4] w fun e w' => e = .returned (.string (str (be 4 n.toNat))) ∧ Below w.heap.size w w' := by
  obtain ⟨m, rfl⟩ := Int.eq_ofNat_of_zero_le h0
  rw [Int.toNat_natCast]
  have hbs := bs1
  go_enter Tryd.func31, Tryd.ntmps31
  go_wp2
  go_rounds 5
  go_wp2
  go_ret
  refine ⟨ret_str (by simp [be, u8m]), ?_⟩
  go_grown
theorem Num8_any (n : Int) (h0 : 0 ≤ n) (h1 : n < 18446744073709551616) (w : World) :
    Calls Tryd.prog 31 #[.int .u64 n, .int .i64 8] w fun e w' => e = .returned (.string (str (be 8 n.toNat))) ∧ Below w.heap.size w w' := by
  obtain ⟨m, rfl⟩ := Int.eq_ofNat_of_zero_le h0
  rw [Int.toNat_natCast]
  have hbs := bs1
  go_enter Tryd.func31, Tryd.ntmps31
  go_wp2
  go_rounds 9
  go_wp2
  go_ret
  refine ⟨ret_str (by simp [be, u8m]), ?_⟩
  go_grown
theorem XText_any (l : List UInt8) (hl : l.length ≤ maxLen) (w : World) :
    Calls Tryd.prog 51 #[.string (str l)] w fun e w' => e = .returned (.tuple #[.string (str (textS l)), .int .i64 (textE l)]) ∧ Below w.heap.size w w' := by
  unfold maxLen at hl
  by_cases h : l.length ≤ 65535
  · have e1 : textS l = be 2 l.length ++ l := if_pos h
    have e2 : textE l = 0 := if_pos h
    rw [e1, e2]
    clear e1 e2
    have hbe := be_length 2 l.length
    go_enter Tryd.func51, Tryd.ntmps51
    go_wp2_with (go_at_call 31; refine (Num2_any _ (by omega) (by omega) _).mono ?_; rintro e w1 ⟨rfl, hb⟩; rw [Int.toNat_natCast])
    go_ret2
    exact ⟨rfl, hb⟩
  · have e1 : textS l = [] := if_neg h
    have e2 : textE l = 11 := if_neg h
    rw [e1, e2]
    clear e1 e2
    go_enter Tryd.func51, Tryd.ntmps51
    go_wp2
    go_ret2
    exact ⟨rfl, Below.refl _ _⟩
theorem XFill_any (l : List UInt8) (hl : l.length ≤ maxLen) (w : World) :
    Calls Tryd.prog 30 #[.string (str l)] w fun e w' => e = .returned (.tuple #[.string (str (fillS l)), .int .i64 (fillE l)]) ∧ Below w.heap.size w w' := by
  unfold maxLen at hl
  by_cases h : l.length ≤ 510
  · have e1 : fillS l = be 2 l.length ++ l ++ List.replicate (510 - l.length) 0 := if_pos h
    have e2 : fillE l = 0 := if_pos h
    rw [e1, e2]
    clear e1 e2
    have hbe := be_length 2 l.length
    have ht : textS l = be 2 l.length ++ l := if_pos (by omega)
    have hmk := fun w => mkn w (512 - (2 + (l.length : Int))) (by omega) (by omega)
    have hcv := fun w => cvn w (512 - (2 + (l.length : Int))).toNat
    have hlen := List.length_replicate (n := 510 - l.length) (a := (0 : UInt8))
    rw [show (512 - (2 + (l.length : Int))).toNat = 510 - l.length from by omega] at hmk hcv
    go_enter Tryd.func30, Tryd.ntmps30
    go_wp2_with (go_at_call 51; refine (XText_any _ (by unfold maxLen; omega) _).mono ?_; rintro e w1 ⟨rfl, hb⟩; rw [ht])
    go_ret2
    exact ⟨rfl, hb.alloc hb.size _⟩
  · have e1 : fillS l = [] := if_neg h
    have e2 : fillE l = 11 := if_neg h
    rw [e1, e2]
    clear e1 e2
    go_enter Tryd.func30, Tryd.ntmps30
    go_wp2
    go_ret2
    exact ⟨rfl, Below.refl _ _⟩
theorem XOpen_any (l : List UInt8) (w : World) :
    Calls Tryd.prog 27 #[.string (str l)] w fun e w' => e = .returned (.tuple #[.string (str (xopenS l)), .bool (xopenOk l)]) ∧ Below w.heap.size w w' := by
  by_cases h512 : l.length = 512
  · have hn := num_two l (by omega)
    have b0 := UInt8.toNat_lt l[0]
    have b1 := UInt8.toNat_lt l[1]
    have Hn := Lib.hid hn
    clear hn
    obtain ⟨T, HT⟩ : ∃ T, Hid ((l.drop 2).take (l[0].toNat * 256 + l[1].toNat) = T) := ⟨_, Lib.hid rfl⟩
    have hT : T.length ≤ 510 := by rw [← HT.out]; simp; omega
    have q1 : decide ((l.length : Int) = 512) = true := by simp; omega
    have H512 := Lib.hid h512
    by_cases h510 : l[0].toNat * 256 + l[1].toNat ≤ 510
    · have hk : xopenOk l = (fillS T == l) := by simp [xopenOk, xopenN, h512, Hn.out, h510, HT.out]
      have hS : xopenS l = if fillS T == l then T else [] := by rw [xopenS, hk, xopenN, Hn.out, HT.out]
      rw [hk, hS]
      clear hk hS
      cases q2 : fillS T == l
      all_goals
        go_enter Tryd.func27, Tryd.ntmps27
        go_wp2_with fail
        go_quiet (fail)
        go_wp2_with fail
        simp only [Nat.add_sub_cancel_left]
        rw [HT.out]
        refine (XFill_any _ (by unfold maxLen; omega) _).mono ?_
        rintro e w1 ⟨rfl, hb⟩
        go_wp2
        go_ret2
        exact ⟨rfl, (below_drewN w _).trans hb⟩
    · have hk : xopenOk l = false := by simp [xopenOk, xopenN, Hn.out, h510]
      rw [xopenS, hk]
      clear hk
      go_enter Tryd.func27, Tryd.ntmps27
      go_wp2_with fail
      go_quiet (fail)
      go_wp2
      go_ret2
      exact ⟨rfl, below_drewN w _⟩
  · have q1 : ((l.length : Int) != 512) = true := by simp; omega
    have hk : xopenOk l = false := by simp [xopenOk, h512]
    rw [xopenS, hk]
    clear hk
    go_enter Tryd.func27, Tryd.ntmps27
    go_wp2
    go_ret2
    exact ⟨rfl, Below.refl _ _⟩
end Go.Proofs.YtgncmgchoogmpaaDoor
