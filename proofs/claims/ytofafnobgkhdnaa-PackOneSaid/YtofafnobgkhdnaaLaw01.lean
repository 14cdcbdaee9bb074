/- The chapter's examples hold: what the statements of layer 1 ask first. -/
import Derived.Test.YtofafnobgkhdnaaRef01
namespace Go.Proofs.Ytofafnobgkhdnaa
open Go.RowKit

theorem fill_nil : fillS [] = List.replicate 512 0 := by
  rw [fillS, if_pos (by simp), show be 2 ([] : List UInt8).length = List.replicate 2 0 from by decide, List.append_nil]
  exact List.replicate_append_replicate
theorem awake_any (w : World) :
    Calls Try.prog 11 #[] w fun e w' => e = .returned (.bool true) ∧ Below w.heap.size w w' := by
  have t1 : textS [97, 98] = [0, 2, 97, 98] := by decide
  have t2 : textE [97, 98] = 0 := by decide
  have t3 : fillE [97] = 0 := by decide
  have t4 := (open_fill (t := [97]) (by decide)).1
  have t5 := (open_fill (t := [97]) (by decide)).2
  have t6 := (open_fill (t := []) (by decide)).1
  have t7 := (open_fill (t := []) (by decide)).2
  rw [fill_nil] at t6 t7
  have t8 : be 4 (Int.toNat 258) = [0, 0, 1, 2] := by decide
  have t9 : rtextS [0, 5, 97] = [] := by decide
  have t10 : endE (rtextL [0, 5, 97]) (rtextB [0, 5, 97] false) = 10 := by decide
  have hmk := fun w => mkn w 512 (by omega) (by omega)
  have hcv := fun w => cvn w (512 : Int).toNat
  rw [show (512 : Int).toNat = 512 from rfl] at hmk hcv
  obtain ⟨z, Hz⟩ : ∃ z, Hid (z = List.replicate 512 (0 : UInt8)) := ⟨_, Lib.hid rfl⟩
  rw [← Hz.out] at hcv t6 t7
  go_enter Try.func11, Try.ntmps11
  go_wp2_with fail
  refine (Text_any [97, 98] (by decide) _).mono ?_
  rintro e w1 ⟨rfl, hb1⟩
  rw [t1, t2]
  go_wp2_with fail
  refine (Fill_any [97] (by decide) _).mono ?_
  rintro e w2 ⟨rfl, hb2⟩
  rw [t3]
  go_wp2_with fail
  refine (Open_any _ _).mono ?_
  rintro e w3 ⟨rfl, hb3⟩
  rw [t4, t5]
  go_wp2_with fail
  refine (Open_any _ _).mono ?_
  rintro e w4 ⟨rfl, hb4⟩
  rw [t6, t7]
  go_wp2_with fail
  refine (Read_any [0, 5, 97] _).mono ?_
  rintro e w5 ⟨rfl, hb5, hr5, hz5⟩
  have Hz5 := Lib.hid hz5
  clear hz5
  go_wp2_with fail
  refine (RText_any _ _ _ _ hr5).mono ?_
  rintro e w6 ⟨rfl, hm6, hr6⟩
  have Hm6 := Lib.hid hm6
  clear hm6
  rw [t9]
  go_wp2_with fail
  refine (Four_any 258 (by omega) (by omega) _).mono ?_
  rintro e w7 ⟨rfl, hb7⟩
  rw [t8]
  go_wp2_with fail
  refine (End_any _ _ _ _ (hr6.later (.of_below (S := fun _ => False) hb7) id)).mono ?_
  rintro e w8 ⟨rfl, rfl⟩
  rw [t10]
  go_wp2
  go_ret
  have b4 := bnext (balloc (bnext (bnext hb1 hb2) hb3) _) hb4
  exact ⟨rfl, bnext (bmod (bnext b4 hb5) Hm6.out b4.size) hb7⟩
end Go.Proofs.Ytofafnobgkhdnaa
