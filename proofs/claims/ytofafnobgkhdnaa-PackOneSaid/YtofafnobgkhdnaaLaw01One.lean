/- No two texts make one sector, and none but sectors of 512 bytes are opened: PackOne. -/
import Derived.Test.YtofafnobgkhdnaaRows
import Derived.Test.YtofafnobgkhdnaaClose
import Derived.Test.YtofafnobgkhdnaaLaw01
namespace Go.Proofs.Ytofafnobgkhdnaa.packOne
open Go.ChangeShapes Go.WideShapes Go.ChangeAt Go.RowKit
open Go.ChangeMaps (open_string shut_string)

theorem walk (a0 : List UInt8) (a1 : List UInt8) (a2 : List UInt8) (w : World) (_ : a0.length ≤ maxLen) (_ : a1.length ≤ maxLen) (_ : a2.length ≤ maxLen) :
    Calls Try.prog 7 #[.string (str a0), .string (str a1), .string (str a2)] w fun e w' => e = .returned (.bool true) ∧ Below w.heap.size w w' := by
  obtain ⟨s, Hs⟩ : ∃ s, Hid (a0.take 510 = s) := ⟨_, Lib.hid rfl⟩
  obtain ⟨t, Ht⟩ : ∃ t, Hid (a1.take 510 = t) := ⟨_, Lib.hid rfl⟩
  obtain ⟨r, Hr⟩ : ∃ r, Hid (a2.take 600 = r) := ⟨_, Lib.hid rfl⟩
  have hs : s.length ≤ 510 := by rw [← Hs.out]; simp; omega
  have ht : t.length ≤ 510 := by rw [← Ht.out]; simp; omega
  have f1 : fillE s = 0 := if_pos hs
  have f2 : fillE t = 0 := if_pos ht
  have f3 := fillS_length hs
  have f4 : (fillS s == fillS t) = (s == t) := by
    rw [Bool.eq_iff_iff, beq_iff_eq, beq_iff_eq]
    constructor
    · intro h
      rw [← (open_fill hs).2, ← (open_fill ht).2, h]
    · rintro rfl; rfl
  have hc : (openOk r = true ∧ fillE (openS r) = 0 ∧ fillS (openS r) = r ∧ (r.length : Int) = 512 ∧ (openS r).length ≤ 510) ∨ openOk r = false := by
    cases h : openOk r with
    | false => exact .inr rfl
    | true =>
      obtain ⟨x, y, z⟩ := open_length h
      exact .inl ⟨rfl, if_pos z, y, by omega, z⟩
  rcases hc with ⟨e1, e2, e3, e4, e5⟩ | e1
  all_goals
    go_enter Try.func7, Try.ntmps7
    go_wp2_with fail
    refine (awake_any _).mono ?_
    rintro e w1 ⟨rfl, hb1⟩
    go_wp2_with fail
    refine (short_any _ 510 (by omega) (by omega) _).mono ?_
    rintro e w2 ⟨rfl, rfl⟩
    rw [show (510 : Int).toNat = 510 from rfl, Hs.out]
    go_wp2_with fail
    refine (short_any _ 510 (by omega) (by omega) _).mono ?_
    rintro e w2 ⟨rfl, rfl⟩
    rw [show (510 : Int).toNat = 510 from rfl, Ht.out]
    go_wp2_with fail
    refine (short_any _ 600 (by omega) (by omega) _).mono ?_
    rintro e w2 ⟨rfl, rfl⟩
    rw [show (600 : Int).toNat = 600 from rfl, Hr.out]
    go_wp2_with fail
    refine (Fill_any _ (by unfold maxLen; omega) _).mono ?_
    rintro e w3 ⟨rfl, hb3⟩
    rw [f1]
    go_wp2_with fail
    refine (Fill_any _ (by unfold maxLen; omega) _).mono ?_
    rintro e w4 ⟨rfl, hb4⟩
    rw [f2]
    go_wp2_with fail
    refine (Open_any _ _).mono ?_
    rintro e w5 ⟨rfl, hb5⟩
    rw [e1]
  · go_wp2_with fail
    refine (Fill_any _ (by unfold maxLen; omega) _).mono ?_
    rintro e w6 ⟨rfl, hb6⟩
    rw [e2, e3]
    go_wp2
    go_ret
    exact ⟨rfl, bnext (bnext (bnext (bnext hb1 hb3) hb4) hb5) hb6⟩
  · go_wp2
    go_ret
    exact ⟨rfl, bnext (bnext (bnext hb1 hb3) hb4) hb5⟩
theorem own : ownKnob Try.prog.godebug = none := by kernel_rfl
theorem laidOut : laidOutB Try.prog = true := by kernel_rfl
set_option maxRecDepth 100000 in
theorem lifted (os : Os) (started : os.Started) (H : Type) (enc : TypeId × Value → H) :
    ReturnsInHanded {} Try.checked os 7 .any (Rows.packOneSpec.pre6 enc Try.prog Try.f7 Rows.packOneRow.domain false) (Rows.packOneSpec.post enc Try.prog Try.f7 false true false false) := by
  refine returnsInHanded_of_change (C := Try.checked) own started (by kernel_rfl) Try.func7
    (ChangeSpec.witness6 (enc := enc) (C := Try.checked) false ⟨#[], #[.string ByteArray.empty, .string ByteArray.empty, .string ByteArray.empty], []⟩ 8 (by kernel_rfl) (by kernel_rfl) (by kernel_rfl) (by kernel_rfl)) ?_
  intro W base args ds gs before hval0 hW hcnd _
  have hval : ∀ (j : Nat) t v, Try.f7.params[j]? = some t → args[j]? = some v → Value.okWide Try.prog W .any base t v := hval0
  have hW' := hW
  obtain ⟨p, q, hA0, hV, rfl, hfz, hnd⟩ := hW
  have hA : DataW.TrodAll enc Try.prog W 0 (fun _ => true) true Try.f7.params.toList args.toList ds p := hA0
  rw [Try.params7] at hA hval
  obtain ⟨v0, vs0, d0, ds0, p0, q0, hargs, rfl, rfl, h0, r0⟩ := trodAll_cons hA
  obtain ⟨v1, vs1, d1, ds1, p1, q1, rfl, rfl, rfl, h1, r1⟩ := trodAll_cons r0
  obtain ⟨v2, vs2, d2, ds2, p2, q2, rfl, rfl, rfl, h2, r2⟩ := trodAll_cons r1
  obtain ⟨rfl, rfl, rfl⟩ := trodAll_nil r2
  obtain rfl : args = #[v0, v1, v2] := by cases args; simp_all
  obtain ⟨s0, rfl, rfl, rfl, w0⟩ := open_string Try.underlying9 (hval 0 9 v0 rfl rfl) h0
  obtain ⟨a0, rfl⟩ := str_of s0
  rw [str_size] at w0
  obtain ⟨s1, rfl, rfl, rfl, w1⟩ := open_string Try.underlying9 (hval 1 9 v1 rfl rfl) h1
  obtain ⟨a1, rfl⟩ := str_of s1
  rw [str_size] at w1
  obtain ⟨s2, rfl, rfl, rfl, w2⟩ := open_string Try.underlying9 (hval 2 9 v2 rfl rfl) h2
  obtain ⟨a2, rfl⟩ := str_of s2
  rw [str_size] at w2
  clear hA0 hval0
  refine (walk a0 a1 a2 W w0 w1 w2).mono fun e W' ⟨he, bel⟩ => ?_
  subst he
  exact ⟨_, rfl, law_post laidOut (by rw [Try.params7]; decide +kernel) rfl Try.underlying4 rfl hW' (fun _ => rfl) bel⟩
theorem over : Rows.packOneRow.holds Try.pinned (OpenSpec.ofChange Rows.packOneSpec) :=
  OpenClaim.holds_of_wide 7 Try.f7 rfl rfl rfl rfl rfl rfl rfl ⟨rfl, rfl, rfl, rfl, rfl⟩ rfl rfl rfl rfl rfl (by kernel_rfl) Try.func7 (by kernel_rfl)
    (of_decide_eq_true (by kernel_rfl)) (by unfold Func.isWrapper; first | (rw [if_pos (by decide +kernel)]; kernel_rfl) | (rw [if_neg (by decide +kernel)]; exact ⟨rfl, rfl⟩))
    (fun os started H enc _ => lifted os started H enc)
theorem proved : Rows.PackOneSaid := over
end Go.Proofs.Ytofafnobgkhdnaa.packOne
