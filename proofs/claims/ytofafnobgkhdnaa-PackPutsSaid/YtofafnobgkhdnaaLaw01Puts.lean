/- Numbers and texts are put as the document says: PackPuts. -/
import Derived.Test.YtofafnobgkhdnaaRows
import Derived.Test.YtofafnobgkhdnaaClose
import Derived.Test.YtofafnobgkhdnaaLaw01
namespace Go.Proofs.Ytofafnobgkhdnaa.packPuts
open Go.ChangeShapes Go.WideShapes Go.ChangeAt Go.RowKit
open Go.ChangeMaps (open_string shut_string)

theorem tmod_bd (a : Int) : -100 ≤ a.tmod 101 ∧ a.tmod 101 ≤ 100 := by
  have h1 := Int.tmod_lt_of_pos a (b := 101) (by omega)
  have h2 := Int.lt_tmod_of_pos a (b := 101) (by omega)
  omega
theorem sizes (x k : Int) (hx : x = 65500 + k) (h0 : 0 ≤ k) (h1 : k ≤ 100) : (List.replicate x.toNat (0 : UInt8)).length ≤ 65600 ∧
    (k ≤ 35 → textE (List.replicate x.toNat 0) = 0 ∧ ((textS (List.replicate x.toNat 0)).length : Int) = 65502 + k) ∧ (35 < k → textE (List.replicate x.toNat 0) = 11 ∧ textS (List.replicate x.toNat 0) = []) := by
  have hl : (List.replicate x.toNat (0 : UInt8)).length = x.toNat := List.length_replicate
  refine ⟨by omega, fun h => ⟨if_pos (by omega), ?_⟩, fun h => ⟨if_neg (by omega), if_neg (by omega)⟩⟩
  rw [textS, if_pos (by omega), List.length_append, be_length]
  omega
theorem walk_nega (a0 : Int) (a1 : List UInt8) (a2 : Int) (w : World) (b0 : 0 ≤ a0 ∧ a0 < 18446744073709551616) (hs : a2.tmod 101 < 0) (hk : -a2.tmod 101 ≤ 35) :
    Calls Try.prog 3 #[.int .u64 a0, .string (str a1), .int .i64 a2] w fun e w' => e = .returned (.bool true) ∧ Below w.heap.size w w' := by
  have hm := tmod_bd a2
  have hz := sizes (65500 + -a2.tmod 101) (-a2.tmod 101) rfl (by omega) (by omega)
  have hmk := fun w => mkn w (65500 + -a2.tmod 101) (by omega) (by omega)
  have hcv := fun w => cvn w (65500 + -a2.tmod 101).toNat
  obtain ⟨z, Hz⟩ : ∃ z, Hid (List.replicate (65500 + -a2.tmod 101).toNat (0 : UInt8) = z) := ⟨_, Lib.hid rfl⟩
  rw [Hz.out] at hz hcv
  obtain ⟨hz1, hz2, hz3⟩ := hz
  have e1 := (hz2 hk).1
  have e2 := (hz2 hk).2
  clear hz2 hz3
  have ht : (a1.take 300).length ≤ 300 := by simp; omega
  have u0 := IntKind.wrap_u16 a0
  have g0 : 0 ≤ IntKind.u16.wrap a0 ∧ IntKind.u16.wrap a0 < 65536 := by omega
  have Hu := Lib.hid u0
  clear u0
  go_enter Try.func3, Try.ntmps3
  go_wp2_with fail
  refine (awake_any _).mono ?_
  rintro e w1 ⟨rfl, hb1⟩
  go_wp2_with fail
  refine (short_any _ 300 (by omega) (by omega) _).mono ?_
  rintro e w2 ⟨rfl, rfl⟩
  rw [show (300 : Int).toNat = 300 from rfl]
  go_wp2_with fail
  refine (Text_any _ (by unfold maxLen; omega) _).mono ?_
  rintro e w3 ⟨rfl, hb3⟩
  go_wp2_with fail
  refine (XText_any _ (by unfold maxLen; omega) _).mono ?_
  rintro e w4 ⟨rfl, hb4⟩
  go_wp2_with fail
  refine (Text_any z (by unfold maxLen; omega) _).mono ?_
  rintro e w5 ⟨rfl, hb5⟩
  go_wp2_with fail
  refine (Two_any _ (by omega) (by omega) _).mono ?_
  rintro e w6 ⟨rfl, hb6⟩
  rw [show (IntKind.u16.wrap a0).toNat = (a0 % 65536).toNat from by rw [Hu.out]]
  go_wp2_with fail
  refine (Num2_any _ (by omega) (by omega) _).mono ?_
  rintro e w7 ⟨rfl, hb7⟩
  go_wp2_with fail
  refine (Four_any _ (by omega) (by omega) _).mono ?_
  rintro e w8 ⟨rfl, hb8⟩
  go_wp2_with fail
  refine (Num4_any _ (by omega) (by omega) _).mono ?_
  rintro e w9 ⟨rfl, hb9⟩
  go_wp2_with fail
  refine (Eight_any _ (by omega) (by omega) _).mono ?_
  rintro e w10 ⟨rfl, hb10⟩
  go_wp2_with fail
  refine (Num8_any _ (by omega) (by omega) _).mono ?_
  rintro e w11 ⟨rfl, hb11⟩
  go_wp2
  go_ret
  exact ⟨rfl, bnext (bnext (bnext (bnext (bnext (bnext (bnext (balloc (bnext (bnext hb1 hb3) hb4) _) hb5) hb6) hb7) hb8) hb9) hb10) hb11⟩
theorem walk_negb (a0 : Int) (a1 : List UInt8) (a2 : Int) (w : World) (b0 : 0 ≤ a0 ∧ a0 < 18446744073709551616) (hs : a2.tmod 101 < 0) (hk : 35 < -a2.tmod 101) :
    Calls Try.prog 3 #[.int .u64 a0, .string (str a1), .int .i64 a2] w fun e w' => e = .returned (.bool true) ∧ Below w.heap.size w w' := by
  have hm := tmod_bd a2
  have hz := sizes (65500 + -a2.tmod 101) (-a2.tmod 101) rfl (by omega) (by omega)
  have hmk := fun w => mkn w (65500 + -a2.tmod 101) (by omega) (by omega)
  have hcv := fun w => cvn w (65500 + -a2.tmod 101).toNat
  obtain ⟨z, Hz⟩ : ∃ z, Hid (List.replicate (65500 + -a2.tmod 101).toNat (0 : UInt8) = z) := ⟨_, Lib.hid rfl⟩
  rw [Hz.out] at hz hcv
  obtain ⟨hz1, hz2, hz3⟩ := hz
  have e1 := (hz3 hk).1
  have e2 := (hz3 hk).2
  clear hz2 hz3
  have ht : (a1.take 300).length ≤ 300 := by simp; omega
  have u0 := IntKind.wrap_u16 a0
  have g0 : 0 ≤ IntKind.u16.wrap a0 ∧ IntKind.u16.wrap a0 < 65536 := by omega
  have Hu := Lib.hid u0
  clear u0
  go_enter Try.func3, Try.ntmps3
  go_wp2_with fail
  refine (awake_any _).mono ?_
  rintro e w1 ⟨rfl, hb1⟩
  go_wp2_with fail
  refine (short_any _ 300 (by omega) (by omega) _).mono ?_
  rintro e w2 ⟨rfl, rfl⟩
  rw [show (300 : Int).toNat = 300 from rfl]
  go_wp2_with fail
  refine (Text_any _ (by unfold maxLen; omega) _).mono ?_
  rintro e w3 ⟨rfl, hb3⟩
  go_wp2_with fail
  refine (XText_any _ (by unfold maxLen; omega) _).mono ?_
  rintro e w4 ⟨rfl, hb4⟩
  go_wp2_with fail
  refine (Text_any z (by unfold maxLen; omega) _).mono ?_
  rintro e w5 ⟨rfl, hb5⟩
  go_wp2_with fail
  refine (Two_any _ (by omega) (by omega) _).mono ?_
  rintro e w6 ⟨rfl, hb6⟩
  rw [show (IntKind.u16.wrap a0).toNat = (a0 % 65536).toNat from by rw [Hu.out]]
  go_wp2_with fail
  refine (Num2_any _ (by omega) (by omega) _).mono ?_
  rintro e w7 ⟨rfl, hb7⟩
  go_wp2_with fail
  refine (Four_any _ (by omega) (by omega) _).mono ?_
  rintro e w8 ⟨rfl, hb8⟩
  go_wp2_with fail
  refine (Num4_any _ (by omega) (by omega) _).mono ?_
  rintro e w9 ⟨rfl, hb9⟩
  go_wp2_with fail
  refine (Eight_any _ (by omega) (by omega) _).mono ?_
  rintro e w10 ⟨rfl, hb10⟩
  go_wp2_with fail
  refine (Num8_any _ (by omega) (by omega) _).mono ?_
  rintro e w11 ⟨rfl, hb11⟩
  go_wp2
  go_ret
  exact ⟨ret_bool (by simp; omega), bnext (bnext (bnext (bnext (bnext (bnext (bnext (balloc (bnext (bnext hb1 hb3) hb4) _) hb5) hb6) hb7) hb8) hb9) hb10) hb11⟩
theorem walk_posa (a0 : Int) (a1 : List UInt8) (a2 : Int) (w : World) (b0 : 0 ≤ a0 ∧ a0 < 18446744073709551616) (hs : 0 ≤ a2.tmod 101) (hk : a2.tmod 101 ≤ 35) :
    Calls Try.prog 3 #[.int .u64 a0, .string (str a1), .int .i64 a2] w fun e w' => e = .returned (.bool true) ∧ Below w.heap.size w w' := by
  have hm := tmod_bd a2
  have hz := sizes (65500 + a2.tmod 101) (a2.tmod 101) rfl (by omega) (by omega)
  have hmk := fun w => mkn w (65500 + a2.tmod 101) (by omega) (by omega)
  have hcv := fun w => cvn w (65500 + a2.tmod 101).toNat
  obtain ⟨z, Hz⟩ : ∃ z, Hid (List.replicate (65500 + a2.tmod 101).toNat (0 : UInt8) = z) := ⟨_, Lib.hid rfl⟩
  rw [Hz.out] at hz hcv
  obtain ⟨hz1, hz2, hz3⟩ := hz
  have e1 := (hz2 hk).1
  have e2 := (hz2 hk).2
  clear hz2 hz3
  have ht : (a1.take 300).length ≤ 300 := by simp; omega
  have u0 := IntKind.wrap_u16 a0
  have g0 : 0 ≤ IntKind.u16.wrap a0 ∧ IntKind.u16.wrap a0 < 65536 := by omega
  have Hu := Lib.hid u0
  clear u0
  go_enter Try.func3, Try.ntmps3
  go_wp2_with fail
  refine (awake_any _).mono ?_
  rintro e w1 ⟨rfl, hb1⟩
  go_wp2_with fail
  refine (short_any _ 300 (by omega) (by omega) _).mono ?_
  rintro e w2 ⟨rfl, rfl⟩
  rw [show (300 : Int).toNat = 300 from rfl]
  go_wp2_with fail
  refine (Text_any _ (by unfold maxLen; omega) _).mono ?_
  rintro e w3 ⟨rfl, hb3⟩
  go_wp2_with fail
  refine (XText_any _ (by unfold maxLen; omega) _).mono ?_
  rintro e w4 ⟨rfl, hb4⟩
  go_wp2_with fail
  refine (Text_any z (by unfold maxLen; omega) _).mono ?_
  rintro e w5 ⟨rfl, hb5⟩
  go_wp2_with fail
  refine (Two_any _ (by omega) (by omega) _).mono ?_
  rintro e w6 ⟨rfl, hb6⟩
  rw [show (IntKind.u16.wrap a0).toNat = (a0 % 65536).toNat from by rw [Hu.out]]
  go_wp2_with fail
  refine (Num2_any _ (by omega) (by omega) _).mono ?_
  rintro e w7 ⟨rfl, hb7⟩
  go_wp2_with fail
  refine (Four_any _ (by omega) (by omega) _).mono ?_
  rintro e w8 ⟨rfl, hb8⟩
  go_wp2_with fail
  refine (Num4_any _ (by omega) (by omega) _).mono ?_
  rintro e w9 ⟨rfl, hb9⟩
  go_wp2_with fail
  refine (Eight_any _ (by omega) (by omega) _).mono ?_
  rintro e w10 ⟨rfl, hb10⟩
  go_wp2_with fail
  refine (Num8_any _ (by omega) (by omega) _).mono ?_
  rintro e w11 ⟨rfl, hb11⟩
  go_wp2
  go_ret
  exact ⟨rfl, bnext (bnext (bnext (bnext (bnext (bnext (bnext (balloc (bnext (bnext hb1 hb3) hb4) _) hb5) hb6) hb7) hb8) hb9) hb10) hb11⟩
theorem walk_posb (a0 : Int) (a1 : List UInt8) (a2 : Int) (w : World) (b0 : 0 ≤ a0 ∧ a0 < 18446744073709551616) (hs : 0 ≤ a2.tmod 101) (hk : 35 < a2.tmod 101) :
    Calls Try.prog 3 #[.int .u64 a0, .string (str a1), .int .i64 a2] w fun e w' => e = .returned (.bool true) ∧ Below w.heap.size w w' := by
  have hm := tmod_bd a2
  have hz := sizes (65500 + a2.tmod 101) (a2.tmod 101) rfl (by omega) (by omega)
  have hmk := fun w => mkn w (65500 + a2.tmod 101) (by omega) (by omega)
  have hcv := fun w => cvn w (65500 + a2.tmod 101).toNat
  obtain ⟨z, Hz⟩ : ∃ z, Hid (List.replicate (65500 + a2.tmod 101).toNat (0 : UInt8) = z) := ⟨_, Lib.hid rfl⟩
  rw [Hz.out] at hz hcv
  obtain ⟨hz1, hz2, hz3⟩ := hz
  have e1 := (hz3 hk).1
  have e2 := (hz3 hk).2
  clear hz2 hz3
  have ht : (a1.take 300).length ≤ 300 := by simp; omega
  have u0 := IntKind.wrap_u16 a0
  have g0 : 0 ≤ IntKind.u16.wrap a0 ∧ IntKind.u16.wrap a0 < 65536 := by omega
  have Hu := Lib.hid u0
  clear u0
  go_enter Try.func3, Try.ntmps3
  go_wp2_with fail
  refine (awake_any _).mono ?_
  rintro e w1 ⟨rfl, hb1⟩
  go_wp2_with fail
  refine (short_any _ 300 (by omega) (by omega) _).mono ?_
  rintro e w2 ⟨rfl, rfl⟩
  rw [show (300 : Int).toNat = 300 from rfl]
  go_wp2_with fail
  refine (Text_any _ (by unfold maxLen; omega) _).mono ?_
  rintro e w3 ⟨rfl, hb3⟩
  go_wp2_with fail
  refine (XText_any _ (by unfold maxLen; omega) _).mono ?_
  rintro e w4 ⟨rfl, hb4⟩
  go_wp2_with fail
  refine (Text_any z (by unfold maxLen; omega) _).mono ?_
  rintro e w5 ⟨rfl, hb5⟩
  go_wp2_with fail
  refine (Two_any _ (by omega) (by omega) _).mono ?_
  rintro e w6 ⟨rfl, hb6⟩
  rw [show (IntKind.u16.wrap a0).toNat = (a0 % 65536).toNat from by rw [Hu.out]]
  go_wp2_with fail
  refine (Num2_any _ (by omega) (by omega) _).mono ?_
  rintro e w7 ⟨rfl, hb7⟩
  go_wp2_with fail
  refine (Four_any _ (by omega) (by omega) _).mono ?_
  rintro e w8 ⟨rfl, hb8⟩
  go_wp2_with fail
  refine (Num4_any _ (by omega) (by omega) _).mono ?_
  rintro e w9 ⟨rfl, hb9⟩
  go_wp2_with fail
  refine (Eight_any _ (by omega) (by omega) _).mono ?_
  rintro e w10 ⟨rfl, hb10⟩
  go_wp2_with fail
  refine (Num8_any _ (by omega) (by omega) _).mono ?_
  rintro e w11 ⟨rfl, hb11⟩
  go_wp2
  go_ret
  exact ⟨ret_bool (by simp; omega), bnext (bnext (bnext (bnext (bnext (bnext (bnext (balloc (bnext (bnext hb1 hb3) hb4) _) hb5) hb6) hb7) hb8) hb9) hb10) hb11⟩
theorem walk (a0 : Int) (a1 : List UInt8) (a2 : Int) (w : World) (w0 : (Lit.int .u64 a0).wf = true) (_ : a1.length ≤ maxLen) (_ : (Lit.int .i64 a2).wf = true) :
    Calls Try.prog 3 #[.int .u64 a0, .string (str a1), .int .i64 a2] w fun e w' => e = .returned (.bool true) ∧ Below w.heap.size w w' := by
  have b0 : 0 ≤ a0 ∧ a0 < 18446744073709551616 := by have := bounds_u64 w0; omega
  rcases (by omega : a2.tmod 101 < 0 ∨ 0 ≤ a2.tmod 101) with hs | hs
  · rcases (by omega : -a2.tmod 101 ≤ 35 ∨ 35 < -a2.tmod 101) with hk | hk
    · exact walk_nega a0 a1 a2 w b0 hs hk
    · exact walk_negb a0 a1 a2 w b0 hs hk
  · rcases (by omega : a2.tmod 101 ≤ 35 ∨ 35 < a2.tmod 101) with hk | hk
    · exact walk_posa a0 a1 a2 w b0 hs hk
    · exact walk_posb a0 a1 a2 w b0 hs hk
theorem own : ownKnob Try.prog.godebug = none := by kernel_rfl
theorem laidOut : laidOutB Try.prog = true := by kernel_rfl
set_option maxRecDepth 100000 in
theorem lifted (os : Os) (started : os.Started) (H : Type) (enc : TypeId × Value → H) :
    ReturnsInHanded {} Try.checked os 3 .any (Rows.packPutsSpec.pre6 enc Try.prog Try.f3 Rows.packPutsRow.domain false) (Rows.packPutsSpec.post enc Try.prog Try.f3 false true false false) := by
  refine returnsInHanded_of_change (C := Try.checked) own started (by kernel_rfl) Try.func3
    (ChangeSpec.witness6 (enc := enc) (C := Try.checked) false ⟨#[], #[.int .u64 0, .string ByteArray.empty, .int .i64 0], []⟩ 8 (by kernel_rfl) (by kernel_rfl) (by kernel_rfl) (by kernel_rfl)) ?_
  intro W base args ds gs before hval0 hW hcnd _
  have hval : ∀ (j : Nat) t v, Try.f3.params[j]? = some t → args[j]? = some v → Value.okWide Try.prog W .any base t v := hval0
  have hW' := hW
  obtain ⟨p, q, hA0, hV, rfl, hfz, hnd⟩ := hW
  have hA : DataW.TrodAll enc Try.prog W 0 (fun _ => true) true Try.f3.params.toList args.toList ds p := hA0
  rw [Try.params3] at hA hval
  obtain ⟨v0, vs0, d0, ds0, p0, q0, hargs, rfl, rfl, h0, r0⟩ := trodAll_cons hA
  obtain ⟨v1, vs1, d1, ds1, p1, q1, rfl, rfl, rfl, h1, r1⟩ := trodAll_cons r0
  obtain ⟨v2, vs2, d2, ds2, p2, q2, rfl, rfl, rfl, h2, r2⟩ := trodAll_cons r1
  obtain ⟨rfl, rfl, rfl⟩ := trodAll_nil r2
  obtain rfl : args = #[v0, v1, v2] := by cases args; simp_all
  obtain ⟨a0, rfl, rfl, rfl, w0⟩ := open_int Try.underlying22 (hval 0 22 v0 rfl rfl) h0
  obtain ⟨s1, rfl, rfl, rfl, w1⟩ := open_string Try.underlying9 (hval 1 9 v1 rfl rfl) h1
  obtain ⟨a1, rfl⟩ := str_of s1
  rw [str_size] at w1
  obtain ⟨a2, rfl, rfl, rfl, w2⟩ := open_int Try.underlying3 (hval 2 3 v2 rfl rfl) h2
  clear hA0 hval0
  refine (walk a0 a1 a2 W w0 w1 w2).mono fun e W' ⟨he, bel⟩ => ?_
  subst he
  exact ⟨_, rfl, law_post laidOut (by rw [Try.params3]; decide +kernel) rfl Try.underlying4 rfl hW' (fun _ => rfl) bel⟩
theorem over : Rows.packPutsRow.holds Try.pinned (OpenSpec.ofChange Rows.packPutsSpec) :=
  OpenClaim.holds_of_wide 3 Try.f3 rfl rfl rfl rfl rfl rfl rfl ⟨rfl, rfl, rfl, rfl, rfl⟩ rfl rfl rfl rfl rfl (by kernel_rfl) Try.func3 (by kernel_rfl)
    (of_decide_eq_true (by kernel_rfl)) (by unfold Func.isWrapper; first | (rw [if_pos (by decide +kernel)]; kernel_rfl) | (rw [if_neg (by decide +kernel)]; exact ⟨rfl, rfl⟩))
    (fun os started H enc _ => lifted os started H enc)
theorem proved : Rows.PackPutsSaid := over
end Go.Proofs.Ytofafnobgkhdnaa.packPuts
