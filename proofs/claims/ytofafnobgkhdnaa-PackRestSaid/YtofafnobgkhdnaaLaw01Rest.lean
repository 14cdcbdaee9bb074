/- Behind a text that was read stands what stood behind it, and is read as if it stood alone: PackRest. -/
import Derived.Test.YtofafnobgkhdnaaRows
import Derived.Test.YtofafnobgkhdnaaClose
import Derived.Test.YtofafnobgkhdnaaLaw01
namespace Go.Proofs.Ytofafnobgkhdnaa.packRest
open Go.ChangeShapes Go.WideShapes Go.ChangeAt Go.RowKit
open Go.ChangeMaps (open_string shut_string)

theorem walk (a0 : List UInt8) (a1 : List UInt8) (w : World) (_ : a0.length ≤ maxLen) (_ : a1.length ≤ maxLen) :
    Calls Try.prog 10 #[.string (str a0), .string (str a1)] w fun e w' => e = .returned (.bool true) ∧ Below w.heap.size w w' := by
  obtain ⟨s, Hs⟩ : ∃ s, Hid (a0.take 200 = s) := ⟨_, Lib.hid rfl⟩
  obtain ⟨t, Ht⟩ : ∃ t, Hid (a1.take 100 = t) := ⟨_, Lib.hid rfl⟩
  have hs : s.length ≤ 200 := by rw [← Hs.out]; simp; omega
  have ht : t.length ≤ 100 := by rw [← Ht.out]; simp; omega
  have f1 : textE s = 0 := if_pos (by omega)
  have f2 : (textS s).length ≤ 300 := by rw [textS, if_pos (by omega)]; simp [be_length]; omega
  obtain ⟨f3, f4, f5⟩ := rtext_put s t (by omega)
  have f5 := f5 false
  go_enter Try.func10, Try.ntmps10
  go_wp2_with fail
  refine (awake_any _).mono ?_
  rintro e w1 ⟨rfl, hb1⟩
  go_wp2_with fail
  refine (short_any _ 200 (by omega) (by omega) _).mono ?_
  rintro e w2 ⟨rfl, rfl⟩
  rw [show (200 : Int).toNat = 200 from rfl, Hs.out]
  go_wp2_with fail
  refine (short_any _ 100 (by omega) (by omega) _).mono ?_
  rintro e w2 ⟨rfl, rfl⟩
  rw [show (100 : Int).toNat = 100 from rfl, Ht.out]
  go_wp2_with fail
  refine (Text_any _ (by unfold maxLen; omega) _).mono ?_
  rintro e w2 ⟨rfl, hb2⟩
  rw [f1]
  have b2 := bnext hb1 hb2
  clear hb1 hb2
  go_wp2_with fail
  refine (Read_any _ _).mono ?_
  rintro e w3 ⟨rfl, hb3, hr3, hz3⟩
  have Hz3 := Lib.hid hz3
  clear hz3
  go_wp2_with fail
  refine (Read_any _ _).mono ?_
  rintro e w4 ⟨rfl, hb4, hq4, hz4⟩
  have Hz4 := Lib.hid hz4
  have Hne : Hid (w3.heap.size ≠ w2.heap.size) := by have := Hz3.out; exact Lib.hid (by omega)
  have hc2 := b2.size
  have hc3 : w.heap.size ≤ w3.heap.size := by have := Hz3.out; omega
  have b4 := bnext (bnext b2 hb3) hb4
  have hr4 := hr3.below hb4
  clear hz4 hb3 hb4 hr3
  go_wp2_with fail
  refine (RText_any _ _ _ _ hr4).mono ?_
  rintro e w5 ⟨rfl, hm5, hr5⟩
  rw [f3]
  rw [f4, f5] at hr5
  have hq5 := hq4.later hm5 Hne.out
  have b5 := bmod b4 hm5 hc2
  clear hq4 hm5 hr4
  go_wp2_with fail
  refine (Left_any _ _ _ _ hr5).mono ?_
  rintro e w6 ⟨rfl, rfl⟩
  go_wp2_with fail
  refine (RFour_any _ _ _ _ hr5).mono ?_
  rintro e w6 ⟨rfl, hm6, hr6⟩
  have hq6 := hq5.later hm6 Hne.out
  have b6 := bmod b5 hm6 hc2
  clear hq5 hm6 hr5 b5
  go_wp2_with fail
  refine (RText_any _ _ _ _ hr6).mono ?_
  rintro e w7 ⟨rfl, hm7, hr7⟩
  have hq7 := hq6.later hm7 Hne.out
  have b7 := bmod b6 hm7 hc2
  clear hq6 hm7 hr6 b6
  go_wp2_with fail
  refine (RFour_any _ _ _ _ hq7).mono ?_
  rintro e w8 ⟨rfl, hm8, hq8⟩
  have hr8 := hr7.later hm8 Hne.out.symm
  have b8 := bmod b7 hm8 hc3
  clear hq7 hm8 hr7 b7
  go_wp2_with fail
  refine (RText_any _ _ _ _ hq8).mono ?_
  rintro e w9 ⟨rfl, hm9, hq9⟩
  have hr9 := hr8.later hm9 Hne.out.symm
  have b9 := bmod b8 hm9 hc3
  clear hq8 hm9 hr8 b8
  go_wp2_with fail
  refine (Left_any _ _ _ _ hr9).mono ?_
  rintro e w10 ⟨rfl, rfl⟩
  go_wp2_with fail
  refine (Left_any _ _ _ _ hq9).mono ?_
  rintro e w10 ⟨rfl, rfl⟩
  go_wp2_with fail
  refine (End_any _ _ _ _ hr9).mono ?_
  rintro e w10 ⟨rfl, rfl⟩
  go_wp2_with fail
  refine (End_any _ _ _ _ hq9).mono ?_
  rintro e w10 ⟨rfl, rfl⟩
  go_wp2
  go_ret
  exact ⟨rfl, b9⟩
theorem own : ownKnob Try.prog.godebug = none := by kernel_rfl
theorem laidOut : laidOutB Try.prog = true := by kernel_rfl
set_option maxRecDepth 100000 in
theorem lifted (os : Os) (started : os.Started) (H : Type) (enc : TypeId × Value → H) :
    ReturnsInHanded {} Try.checked os 10 .any (Rows.packRestSpec.pre6 enc Try.prog Try.f10 Rows.packRestRow.domain false) (Rows.packRestSpec.post enc Try.prog Try.f10 false true false false) := by
  refine returnsInHanded_of_change (C := Try.checked) own started (by kernel_rfl) Try.func10
    (ChangeSpec.witness6 (enc := enc) (C := Try.checked) false ⟨#[], #[.string ByteArray.empty, .string ByteArray.empty], []⟩ 8 (by kernel_rfl) (by kernel_rfl) (by kernel_rfl) (by kernel_rfl)) ?_
  intro W base args ds gs before hval0 hW hcnd _
  have hval : ∀ (j : Nat) t v, Try.f10.params[j]? = some t → args[j]? = some v → Value.okWide Try.prog W .any base t v := hval0
  have hW' := hW
  obtain ⟨p, q, hA0, hV, rfl, hfz, hnd⟩ := hW
  have hA : DataW.TrodAll enc Try.prog W 0 (fun _ => true) true Try.f10.params.toList args.toList ds p := hA0
  rw [Try.params10] at hA hval
  obtain ⟨v0, vs0, d0, ds0, p0, q0, hargs, rfl, rfl, h0, r0⟩ := trodAll_cons hA
  obtain ⟨v1, vs1, d1, ds1, p1, q1, rfl, rfl, rfl, h1, r1⟩ := trodAll_cons r0
  obtain ⟨rfl, rfl, rfl⟩ := trodAll_nil r1
  obtain rfl : args = #[v0, v1] := by cases args; simp_all
  obtain ⟨s0, rfl, rfl, rfl, w0⟩ := open_string Try.underlying9 (hval 0 9 v0 rfl rfl) h0
  obtain ⟨a0, rfl⟩ := str_of s0
  rw [str_size] at w0
  obtain ⟨s1, rfl, rfl, rfl, w1⟩ := open_string Try.underlying9 (hval 1 9 v1 rfl rfl) h1
  obtain ⟨a1, rfl⟩ := str_of s1
  rw [str_size] at w1
  clear hA0 hval0
  refine (walk a0 a1 W w0 w1).mono fun e W' ⟨he, bel⟩ => ?_
  subst he
  exact ⟨_, rfl, law_post laidOut (by rw [Try.params10]; decide +kernel) rfl Try.underlying4 rfl hW' (fun _ => rfl) bel⟩
theorem over : Rows.packRestRow.holds Try.pinned (OpenSpec.ofChange Rows.packRestSpec) :=
  OpenClaim.holds_of_wide 10 Try.f10 rfl rfl rfl rfl rfl rfl rfl ⟨rfl, rfl, rfl, rfl, rfl⟩ rfl rfl rfl rfl rfl (by kernel_rfl) Try.func10 (by kernel_rfl)
    (of_decide_eq_true (by kernel_rfl)) (by unfold Func.isWrapper; first | (rw [if_pos (by decide +kernel)]; kernel_rfl) | (rw [if_neg (by decide +kernel)]; exact ⟨rfl, rfl⟩))
    (fun os started H enc _ => lifted os started H enc)
theorem proved : Rows.PackRestSaid := over
end Go.Proofs.Ytofafnobgkhdnaa.packRest
