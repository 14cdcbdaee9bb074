/- ModeClaims: what the program tells of claims is what the document tells: for any claims (twelve of them are asked of) and any node. -/
import Derived.Test.YtfmbhpfggkmdoaaRows
import Derived.Test.YtfmbhpfggkmdoaaOwn8

namespace Go.Proofs.Ytfmbhpfggkmdoaa.modeClaims
open Go.RowKit Go.ChangeShapes Go.WideShapes Go.ChangeAt
open Go.ChangeMaps (open_string shut_string)

set_option maxHeartbeats 2000000 in
theorem walk (A : Option Addr) (n cp : Nat) (l : List Cl) (but : Int) (w : World) (hl : IsC w A n l) (hcp : n ≤ cp) (hA : A = none → n = 0) (_ : (Lit.int .i64 but).wf = true) :
    Calls Try.prog 4 #[.slice A n cp, .int .i64 but] w fun e w' => e = .returned (.bool true) ∧ Below w.heap.size w w' := by
  have Hl := Lib.hid hl
  have HA := Lib.hid hA
  clear hl hA
  obtain ⟨l2, Hl2⟩ : ∃ x, Hid (l.take 12 = x) := ⟨_, Lib.hid rfl⟩
  obtain ⟨s, Hs⟩ : ∃ x, Hid (safeB l2 = x) := ⟨_, Lib.hid rfl⟩
  obtain ⟨t, Ht⟩ : ∃ x, Hid (strM l2 but = x) := ⟨_, Lib.hid rfl⟩
  go_enter Try.func4, Try.ntmps4
  go_wp2_with fail
  refine (awake_any _).mono ?_
  rintro e w1 ⟨rfl, hb⟩
  have B1 := Lib.hid hb
  clear hb
  go_wp2_with fail
  refine (few_any _ A n cp l (Hl.out.below B1.out) hcp HA.out).mono ?_
  rw [Hl2.out]
  rintro e w1' ⟨m, c', rfl, hm, hc, hmc, rfl⟩
  have C1 := Lib.hid hc
  clear hc
  go_wp2_with fail
  refine (Safe_any _ A m c' l2 C1.out).mono ?_
  rw [Hs.out]
  rintro e w2 ⟨rfl, hb⟩
  have B2 := Lib.hid (bnext B1.out hb)
  have C2 := Lib.hid (C1.out.below hb)
  clear hb
  go_wp2_with fail
  refine (SafeR_any _ A m c' l2 C2.out).mono ?_
  rw [Hs.out]
  rintro e w3 ⟨rfl, hb⟩
  have B3 := Lib.hid (bnext B2.out hb)
  have C3 := Lib.hid (C2.out.below hb)
  clear hb
  go_wp2_with fail
  refine (Strongest_any _ A m c' l2 C3.out but).mono ?_
  rw [Ht.out]
  rintro e w4 ⟨rfl, hb⟩
  have B4 := Lib.hid (bnext B3.out hb)
  have C4 := Lib.hid (C3.out.below hb)
  clear hb
  go_wp2_with fail
  refine (StrongestR_any _ A m c' l2 C4.out but).mono ?_
  rw [Ht.out]
  rintro e w5 ⟨rfl, hb⟩
  have B5 := Lib.hid (bnext B4.out hb)
  clear hb
  go_wp2
  go_ret
  exact ⟨ret_bool (by simp), B5.out⟩
theorem own : ownKnob Try.prog.godebug = none := by kernel_rfl
theorem laidOut : laidOutB Try.prog = true := by kernel_rfl
set_option maxRecDepth 100000 in
theorem lifted (os : Os) (started : os.Started) (H : Type) (enc : TypeId × Value → H) :
    ReturnsInHanded {} Try.checked os 4 .any (Rows.modeClaimsSpec.pre6 enc Try.prog Try.f4 Rows.modeClaimsRow.domain false) (Rows.modeClaimsSpec.post enc Try.prog Try.f4 false true false false) := by
  refine returnsInHanded_of_change (C := Try.checked) own started (by kernel_rfl) Try.func4
    (ChangeSpec.witness6 (enc := enc) (C := Try.checked) false ⟨#[], #[.slice none 0 0, .int .i64 0], []⟩ 8 (by kernel_rfl) (by kernel_rfl) (by kernel_rfl) (by kernel_rfl)) ?_
  intro W base args ds gs before hval0 hW hcnd _
  have hval : ∀ (j : Nat) t v, Try.f4.params[j]? = some t → args[j]? = some v → Value.okWide Try.prog W .any base t v := hval0
  have hW' := hW
  obtain ⟨p, q, hA0, hV, rfl, hfz, hnd⟩ := hW
  have hA : DataW.TrodAll enc Try.prog W 0 (fun _ => true) true Try.f4.params.toList args.toList ds p := hA0
  rw [Try.params4] at hA hval
  obtain ⟨v0, vs0, d0, ds0, p0, q0, hargs, rfl, rfl, h0, r0⟩ := trodAll_cons hA
  obtain ⟨v1, vs1, d1, ds1, p1, q1, rfl, rfl, rfl, h1, r1⟩ := trodAll_cons r0
  obtain ⟨rfl, rfl, rfl⟩ := trodAll_nil r1
  obtain rfl : args = #[v0, v1] := by cases args; simp_all
  obtain ⟨x0, len0, cap0, a0, rfl, w0, y0, z0⟩ := opens_claims (hval 0 28 v0 rfl rfl) h0
  obtain ⟨a1, rfl, rfl, rfl, w1⟩ := open_int Try.underlying3 (hval 1 3 v1 rfl rfl) h1
  clear hA0 hval0
  refine (walk x0 len0 cap0 a0 a1 W w0 y0 z0 w1).mono fun e W' ⟨he, bel⟩ => ?_
  subst he
  exact ⟨_, rfl, law_post laidOut (by rw [Try.params4]; decide +kernel) rfl Try.underlying4 rfl hW' (fun _ => rfl) bel⟩
theorem over : Rows.modeClaimsRow.holds Try.pinned (OpenSpec.ofChange Rows.modeClaimsSpec) :=
  OpenClaim.holds_of_wide 4 Try.f4 rfl rfl rfl rfl rfl rfl rfl ⟨rfl, rfl, rfl, rfl, rfl⟩ rfl rfl rfl rfl rfl (by kernel_rfl) Try.func4 (by kernel_rfl)
    (of_decide_eq_true (by kernel_rfl)) (by unfold Func.isWrapper; first | (rw [if_pos (by decide +kernel)]; kernel_rfl) | (rw [if_neg (by decide +kernel)]; exact ⟨rfl, rfl⟩))
    (fun os started H enc _ => lifted os started H enc)
theorem proved : Rows.ModeClaimsSaid := over
end Go.Proofs.Ytfmbhpfggkmdoaa.modeClaims
