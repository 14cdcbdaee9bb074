/- Two numbers that are gone on from by one text come to one sum if and only if they are one; an empty text changes nothing. -/
import Derived.Test.YtbniahmnjljgmaaDoorRef02
import Derived.Test.YtbniahmnjljgmaaDoorTied02
namespace Go.Proofs.YtbniahmnjljgmaaDoor.crcSteps
open Go.RowKit Go.ChangeShapes Go.WideShapes Go.ChangeAt
open Go.ChangeMaps (open_string shut_string)

theorem walk (x y : Int) (a : List UInt8) (w : World) (hx : (Lit.int .u32 x).wf = true) (hy : (Lit.int .u32 y).wf = true) (_hl : a.length ≤ maxLen) (hT : Tab w) :
    Calls Tryd.prog 7 #[.int .u32 x, .int .u32 y, .string (str a)] w fun e w' => e = .returned (.bool true) ∧ Below w.heap.size w w' := by
  obtain ⟨x, rfl⟩ : ∃ z, x = uv z := uv_wf x hx
  obtain ⟨y, rfl⟩ : ∃ z, y = uv z := uv_wf y hy
  go_enter Tryd.func7, Tryd.ntmps7
  go_wp2_with fail
  refine (awake_any _ hT).mono ?_
  rintro e w1 ⟨rfl, hb1⟩
  have Hb1 := Lib.hid hb1
  have HT1 := Lib.hid (hT.below hb1)
  clear hb1
  go_wp2_with fail
  refine (short_any a 300 (by omega) (by omega) _).mono ?_
  rintro e w2 ⟨rfl, rfl⟩
  obtain ⟨l, Hl⟩ : ∃ l, Hid (a.take (300 : Int).toNat = l) := ⟨_, Lib.hid rfl⟩
  have hl : l.length ≤ maxLen := by rw [← Hl.out]; simp [maxLen]; omega
  rw [Hl.out]
  have hi : (uv (Crc.add x l) == uv (Crc.add y l)) = (uv x == uv y) := by
    rw [Bool.eq_iff_iff, beq_iff_eq, beq_iff_eq, uv_inj, uv_inj]
    exact ⟨Crc.add_inj l, fun h => by rw [h]⟩
  have Hi := Lib.hid hi
  clear hi
  go_wp2_with fail
  refine (Add_any _ l hl _ HT1.out).mono ?_
  rintro e w3 ⟨rfl, rfl⟩
  go_wp2_with fail
  refine (Add_any _ l hl _ HT1.out).mono ?_
  rintro e w3 ⟨rfl, rfl⟩
  have hi := Hi.out
  go_wp2_with fail
  refine (Add_any _ [] (by decide) _ HT1.out).mono ?_
  rintro e w3 ⟨rfl, rfl⟩
  rw [Crc.add_nil]
  go_wp2
  go_ret
  exact ⟨rfl, Hb1.out⟩
set_option maxRecDepth 100000 in
theorem lifted (os : Os) (started : os.Started) (H : Type) (enc : TypeId × Value → H) :
    ReturnsInHanded {} Tryd.checked os 7 .any (fun w args => (Rows.crcStepsSpec.pre enc Tryd.prog Tryd.f7 [] false w args ∧ laidMetH Tryd.prog laidT w) ∧ sizedMet enc Tryd.prog Tryd.f7 (OpenSpec.ofChange Rows.crcStepsSpec) false w args)
      (Rows.crcStepsSpec.post enc Tryd.prog Tryd.f7 false true false false) := by
  refine returnsInHanded_of_change_and (C := Tryd.checked) (X := fun w _ => laidMetH Tryd.prog laidT w) (fun _ _ _ hh h => h.of_heap hh) own started (by kernel_rfl) Tryd.func7
    (ChangeSpec.witness_shaped (enc := enc) (C := Tryd.checked) (os := os) (X := fun w _ => laidMetH Tryd.prog laidT w) false (World.doorLaid Tryd.prog 400 os) #[.int .u32 0, .int .u32 0, .string ByteArray.empty] 8 rfl (World.shaped_of_RefB (by kernel_rfl) (by kernel_rfl)) (by kernel_rfl) (by kernel_rfl) (by kernel_rfl) (door_met os _)) ?_
  intro W base args ds gs before hval0 hW _ _ hL _
  have hval : ∀ (j : Nat) t v, Tryd.f7.params[j]? = some t → args[j]? = some v → Value.okWide Tryd.prog W .any base t v := hval0
  have hW' := hW
  obtain ⟨p, q, hA0, hV, rfl, hfz, hnd⟩ := hW
  have hA : DataW.TrodAll enc Tryd.prog W 0 (fun _ => true) true Tryd.f7.params.toList args.toList ds p := hA0
  rw [Tryd.params7] at hA hval
  obtain ⟨v0, vs0, d0, ds0, p0, q0, hargs, rfl, rfl, h0, r0⟩ := trodAll_cons hA
  obtain ⟨v1, vs1, d1, ds1, p1, q1, rfl, rfl, rfl, h1, r1⟩ := trodAll_cons r0
  obtain ⟨v2, vs2, d2, ds2, p2, q2, rfl, rfl, rfl, h2, r2⟩ := trodAll_cons r1
  obtain ⟨rfl, rfl, rfl⟩ := trodAll_nil r2
  obtain rfl : args = #[v0, v1, v2] := by cases args; simp_all
  obtain ⟨a0, rfl, rfl, rfl, w0⟩ := open_int Tryd.underlying22 (hval 0 22 v0 rfl rfl) h0
  obtain ⟨a1, rfl, rfl, rfl, w1⟩ := open_int Tryd.underlying22 (hval 1 22 v1 rfl rfl) h1
  obtain ⟨s2, rfl, rfl, rfl, w2⟩ := open_string Tryd.underlying9 (hval 2 9 v2 rfl rfl) h2
  obtain ⟨a2, rfl⟩ := str_of s2
  rw [str_size] at w2
  clear hA0 hval0
  refine (walk a0 a1 a2 W w0 w1 w2 (tab_of_laid hL)).mono fun e W' ⟨he, bel⟩ => ?_
  subst he
  exact ⟨_, rfl, law_post laidOut (by rw [Tryd.params7]; decide +kernel) rfl Tryd.underlying4 rfl hW' (fun _ => rfl) bel⟩
theorem over : Rows.crcStepsRow.holds Tryd.pinned (OpenSpec.ofChange Rows.crcStepsSpec) :=
  OpenClaim.holds_of_wide 7 Tryd.f7 rfl rfl rfl rfl rfl rfl rfl ⟨rfl, rfl, rfl, rfl, rfl⟩ rfl rfl rfl rfl rfl (by kernel_rfl) Tryd.func7 (by kernel_rfl)
    (of_decide_eq_true (by kernel_rfl)) (by unfold Func.isWrapper; first | (rw [if_pos (by decide +kernel)]; kernel_rfl) | (rw [if_neg (by decide +kernel)]; exact ⟨rfl, rfl⟩))
    (fun os started H enc _ => lifted os started H enc)
theorem proved : Rows.CrcStepsCardSaid :=
  Claim7.holds_tied_plain_at .later [] [.data] true Rows.crcStepsCard.stood.harness false over (fun _ h => by cases h) (by kernel_rfl) (fun _ h => by cases h) crcSteps_row_tie rfl ⟨rfl, rfl⟩ (by kernel_rfl) rfl
    (fun f fn hf hfn => by
      obtain rfl : f = 7 := Option.some.inj ((show Tryd.prog.funcNamed "lockgate/lockgatelaw02.CrcSteps" = some 7 by kernel_rfl).symm.trans hf) |>.symm
      obtain rfl : fn = Tryd.f7 := (Option.some.inj (Tryd.func7.symm.trans hfn)).symm
      exact ⟨by kernel_rfl, fun j t ht => by
        rw [Tryd.params7] at ht
        have hm : t ∈ [22, 22, 9] := by simpa using Array.mem_of_getElem? ht
        have hall : ([22, 22, 9].all fun u => !Tryd.prog.wantsStandIn u) = true := by kernel_rfl
        exact (show Tryd.prog.wantsStandIn t = false by simpa using List.all_eq_true.1 hall t hm)⟩)
    (by kernel_rfl)
end Go.Proofs.YtbniahmnjljgmaaDoor.crcSteps
