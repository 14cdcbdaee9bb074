/- Texts are made sectors, and bytes opened, as the document says: PackFills. -/
import Derived.Test.YtofafnobgkhdnaaRows
import Derived.Test.YtofafnobgkhdnaaClose
import Derived.Test.YtofafnobgkhdnaaLaw01
namespace Go.Proofs.Ytofafnobgkhdnaa.packFills
open Go.ChangeShapes Go.WideShapes Go.ChangeAt Go.RowKit
open Go.ChangeMaps (open_string shut_string)

theorem walk (a0 : List UInt8) (a1 : List UInt8) (w : World) (_ : a0.length ≤ maxLen) (_ : a1.length ≤ maxLen) :
    Calls Try.prog 4 #[.string (str a0), .string (str a1)] w fun e w' => e = .returned (.bool true) ∧ Below w.heap.size w w' := by
  obtain ⟨s, Hs⟩ : ∃ s, Hid (a0.take 600 = s) := ⟨_, Lib.hid rfl⟩
  obtain ⟨t, Ht⟩ : ∃ t, Hid (a1.take 600 = t) := ⟨_, Lib.hid rfl⟩
  have hs : s.length ≤ 600 := by rw [← Hs.out]; simp; omega
  have ht : t.length ≤ 600 := by rw [← Ht.out]; simp; omega
  have hx := xopenS_eq t
  have hy := xopenOk_eq t
  have hc : (fillE s = 0 ∧ openOk (fillS s) = true ∧ openS (fillS s) = s ∧ (fillS s).length = 512) ∨ (fillE s = 11 ∧ openOk (fillS s) = false) := by
    by_cases h : s.length ≤ 510
    · exact .inl ⟨if_pos h, (open_fill h).1, (open_fill h).2, fillS_length h⟩
    · refine .inr ⟨if_neg h, ?_⟩
      rw [fillS, if_neg h]
      decide
  rcases hc with ⟨e1, e2, e3, e4⟩ | ⟨e1, e2⟩
  all_goals
    go_enter Try.func4, Try.ntmps4
    go_wp2_with fail
    refine (awake_any _).mono ?_
    rintro e w1 ⟨rfl, hb1⟩
    go_wp2_with fail
    refine (short_any _ 600 (by omega) (by omega) _).mono ?_
    rintro e w2 ⟨rfl, rfl⟩
    rw [show (600 : Int).toNat = 600 from rfl, Hs.out]
    go_wp2_with fail
    refine (short_any _ 600 (by omega) (by omega) _).mono ?_
    rintro e w2 ⟨rfl, rfl⟩
    rw [show (600 : Int).toNat = 600 from rfl, Ht.out]
    go_wp2_with fail
    refine (Fill_any _ (by unfold maxLen; omega) _).mono ?_
    rintro e w3 ⟨rfl, hb3⟩
    rw [e1]
    go_wp2_with fail
    refine (XFill_any _ (by unfold maxLen; omega) _).mono ?_
    rintro e w4 ⟨rfl, hb4⟩
    rw [e1]
    go_wp2_with fail
    refine (Open_any _ _).mono ?_
    rintro e w5 ⟨rfl, hb5⟩
    go_wp2_with fail
    refine (XOpen_any _ _).mono ?_
    rintro e w6 ⟨rfl, hb6⟩
    rw [hx, hy]
    go_wp2_with fail
    refine (Open_any _ _).mono ?_
    rintro e w7 ⟨rfl, hb7⟩
    rw [e2]
    first | rw [e3] | skip
    go_wp2
    go_ret
    exact ⟨rfl, bnext (bnext (bnext (bnext (bnext hb1 hb3) hb4) hb5) hb6) hb7⟩
theorem own : ownKnob Try.prog.godebug = none := by kernel_rfl
theorem laidOut : laidOutB Try.prog = true := by kernel_rfl
set_option maxRecDepth 100000 in
theorem lifted (os : Os) (started : os.Started) (H : Type) (enc : TypeId × Value → H) :
    ReturnsInHanded {} Try.checked os 4 .any (Rows.packFillsSpec.pre6 enc Try.prog Try.f4 Rows.packFillsRow.domain false) (Rows.packFillsSpec.post enc Try.prog Try.f4 false true false false) := by
  refine returnsInHanded_of_change (C := Try.checked) own started (by kernel_rfl) Try.func4
    (ChangeSpec.witness6 (enc := enc) (C := Try.checked) false ⟨#[], #[.string ByteArray.empty, .string ByteArray.empty], []⟩ 8 (by kernel_rfl) (by kernel_rfl) (by kernel_rfl) (by kernel_rfl)) ?_
  intro W base args ds gs before hval0 hW hcnd _
  have hval : ∀ (j : Nat) t v, Try.f4.params[j]? = some t → args[j]? = some v → Value.okWide Try.prog W .any base t v := hval0
  have hW' := hW
  obtain ⟨p, q, hA0, hV, rfl, hfz, hnd⟩ := hW
  have hA : DataW.TrodAll enc Try.prog W 0 (fun _ => true) true Try.f4.params.toList args.toList ds p := hA0
  rw [Try.params4] at hA hval
  obtain ⟨v0, vs0, d0, ds0, p0, q0, hargs, rfl, rfl, h0, r0⟩ := trodAll_cons hA
  obtain ⟨v1, vs1, d1, ds1, p1, q1, rfl, rfl, rfl, h1, r1⟩ := trodAll_cons r0
  obtain ⟨rfl, rfl, rfl⟩ := trodAll_nil r1
  obtain rfl : args = #[v0, v1] := by cases args; simp_all
  obtain ⟨s0, rfl, rfl, rfl, w0⟩ := open_string Try.underlying9 (hval 0 9 v0 rfl rfl) h0
  obtain ⟨a0, rfl⟩ := str_of s0
  rw [str_size] at w0
  obtain ⟨s1, rfl, rfl, rfl, w1⟩ := open_string Try.underlying9 (hval 1 9 v1 rfl rfl) h1
  obtain ⟨a1, rfl⟩ := str_of s1
  rw [str_size] at w1
  clear hA0 hval0
  refine (walk a0 a1 W w0 w1).mono fun e W' ⟨he, bel⟩ => ?_
  subst he
  exact ⟨_, rfl, law_post laidOut (by rw [Try.params4]; decide +kernel) rfl Try.underlying4 rfl hW' (fun _ => rfl) bel⟩
theorem over : Rows.packFillsRow.holds Try.pinned (OpenSpec.ofChange Rows.packFillsSpec) :=
  OpenClaim.holds_of_wide 4 Try.f4 rfl rfl rfl rfl rfl rfl rfl ⟨rfl, rfl, rfl, rfl, rfl⟩ rfl rfl rfl rfl rfl (by kernel_rfl) Try.func4 (by kernel_rfl)
    (of_decide_eq_true (by kernel_rfl)) (by unfold Func.isWrapper; first | (rw [if_pos (by decide +kernel)]; kernel_rfl) | (rw [if_neg (by decide +kernel)]; exact ⟨rfl, rfl⟩))
    (fun os started H enc _ => lifted os started H enc)
theorem proved : Rows.PackFillsSaid := over
end Go.Proofs.Ytofafnobgkhdnaa.packFills
