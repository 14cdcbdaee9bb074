/- Heads of journals are made and read as the document says, for every number and any bytes. -/
import Derived.Test.YtgncmgchoogmpaaDoorJx11

namespace Go.Proofs.YtgncmgchoogmpaaDoor.journalHeads
open Go.RowKit Go.ChangeShapes Go.WideShapes Go.ChangeAt
open Go.ChangeMaps (open_string shut_string)

set_option maxRecDepth 100000 in
set_option maxHeartbeats 4000000 in
theorem walk (d : Int) (l0 : List UInt8) (w : World) (_ : (Lit.int .i64 d).wf = true) (hl0 : l0.length ≤ maxLen) (hT : Tab w) :
    Calls Tryd.prog 3 #[.int .i64 d, .string (str l0)] w fun e w' => e = .returned (.bool true) ∧ Below w.heap.size w w' := by
  have main : ∀ (l : List UInt8) (w1 : World), Below w.heap.size w w1 → True := fun _ _ _ => trivial
  clear main
  obtain ⟨x, Hx⟩ : ∃ x, Hid (clampD d = x) := ⟨_, Lib.hid rfl⟩
  have hxle : x ≤ 1099511627776 := by rw [← Hx.out]; exact clampD_le d
  obtain ⟨HS, HHS⟩ : ∃ y, Hid (headS x = y) := ⟨_, Lib.hid rfl⟩
  have hcl : Hid (headS (clampD d) = HS) := Lib.hid (by rw [Hx.out, HHS.out])
  have hdone : Hid (DoneR HS x true) := Lib.hid (.inl ⟨rfl, hxle, HHS.out.symm⟩)
  have hlen : l0.length ≤ 9223372036854775807 := by unfold maxLen at hl0; omega
  go_enter Tryd.func3, Tryd.ntmps3
  go_wp2_with fail
  refine (awake_any _ hT).mono ?_
  rintro e w1 ⟨rfl, hb1⟩
  have B1 := Lib.hid hb1
  clear hb1 hT hl0
  by_cases hgt : 600 < l0.length
  · have hgI : (600 : Int) < (l0.length : Int) := by omega
    go_wp2_with fail
    refine (jHead_any d _).mono ?_
    rw [hcl.out]
    rintro e w2 ⟨rfl, hb2⟩
    have B2 := Lib.hid (bnext B1.out hb2)
    clear hb2
    go_wp2_with fail
    refine (jDone_any _ _).mono ?_
    rintro e w3 ⟨a, q, rfl, ha, hb3⟩
    have B3 := Lib.hid (bnext B2.out hb3)
    have Ha := Lib.hid ha
    clear hb3 ha
    go_wp2_with fail
    refine (xDone_any _ _).mono ?_
    obtain ⟨e1, e2⟩ := Ha.out.eq (done_doc _)
    rw [← e1, ← e2]
    clear e1 e2 Ha
    rintro e w4 ⟨rfl, hb4⟩
    have B4 := Lib.hid (bnext B3.out hb4)
    clear hb4
    go_wp2_with fail
    refine (jDone_any _ _).mono ?_
    rintro e w5 ⟨c, z, rfl, hc, hb5⟩
    obtain ⟨rfl, rfl⟩ := hc.eq hdone.out
    have B5 := Lib.hid (bnext B4.out hb5)
    clear hb5 hc
    have hq : (q == q) = true := by simp
    by_cases h0 : d < 0
    · have hx0 : c = 0 := by have := Hx.out; unfold clampD at this; omega
      subst hx0
      have h1 : ¬ (1099511627776 : Int) < d := by omega
      clear Hx
      go_wp2_with fail
      refine (xHead_any d _).mono ?_
      rw [hcl.out]
      rintro e w6 ⟨rfl, hb6⟩
      have B6 := Lib.hid (bnext B5.out hb6)
      clear hb6
      go_wp2
      go_ret
      exact ⟨rfl, B6.out⟩
    · by_cases h1 : 1099511627776 < d
      · have hx0 : c = 1099511627776 := by have := Hx.out; unfold clampD at this; omega
        subst hx0
        clear Hx
        go_wp2_with fail
        refine (xHead_any d _).mono ?_
        rw [hcl.out]
        rintro e w6 ⟨rfl, hb6⟩
        have B6 := Lib.hid (bnext B5.out hb6)
        clear hb6
        go_wp2
        go_ret
        exact ⟨rfl, B6.out⟩
      · have hx0 : d = (c : Int) := by have := Hx.out; unfold clampD at this; omega
        subst hx0
        clear Hx
        go_wp2_with fail
        refine (xHead_any (c : Int) _).mono ?_
        rw [hcl.out]
        rintro e w6 ⟨rfl, hb6⟩
        have B6 := Lib.hid (bnext B5.out hb6)
        clear hb6
        go_wp2
        go_ret
        exact ⟨rfl, B6.out⟩
  · have hgI : ¬ (600 : Int) < (l0.length : Int) := by omega
    go_wp2_with fail
    refine (jHead_any d _).mono ?_
    rw [hcl.out]
    rintro e w2 ⟨rfl, hb2⟩
    have B2 := Lib.hid (bnext B1.out hb2)
    clear hb2
    go_wp2_with fail
    refine (jDone_any _ _).mono ?_
    rintro e w3 ⟨a, q, rfl, ha, hb3⟩
    have B3 := Lib.hid (bnext B2.out hb3)
    have Ha := Lib.hid ha
    clear hb3 ha
    go_wp2_with fail
    refine (xDone_any _ _).mono ?_
    obtain ⟨e1, e2⟩ := Ha.out.eq (done_doc _)
    rw [← e1, ← e2]
    clear e1 e2 Ha
    rintro e w4 ⟨rfl, hb4⟩
    have B4 := Lib.hid (bnext B3.out hb4)
    clear hb4
    go_wp2_with fail
    refine (jDone_any _ _).mono ?_
    rintro e w5 ⟨c, z, rfl, hc, hb5⟩
    obtain ⟨rfl, rfl⟩ := hc.eq hdone.out
    have B5 := Lib.hid (bnext B4.out hb5)
    clear hb5 hc
    have hq : (q == q) = true := by simp
    by_cases h0 : d < 0
    · have hx0 : c = 0 := by have := Hx.out; unfold clampD at this; omega
      subst hx0
      have h1 : ¬ (1099511627776 : Int) < d := by omega
      clear Hx
      go_wp2_with fail
      refine (xHead_any d _).mono ?_
      rw [hcl.out]
      rintro e w6 ⟨rfl, hb6⟩
      have B6 := Lib.hid (bnext B5.out hb6)
      clear hb6
      go_wp2
      go_ret
      exact ⟨rfl, B6.out⟩
    · by_cases h1 : 1099511627776 < d
      · have hx0 : c = 1099511627776 := by have := Hx.out; unfold clampD at this; omega
        subst hx0
        clear Hx
        go_wp2_with fail
        refine (xHead_any d _).mono ?_
        rw [hcl.out]
        rintro e w6 ⟨rfl, hb6⟩
        have B6 := Lib.hid (bnext B5.out hb6)
        clear hb6
        go_wp2
        go_ret
        exact ⟨rfl, B6.out⟩
      · have hx0 : d = (c : Int) := by have := Hx.out; unfold clampD at this; omega
        subst hx0
        clear Hx
        go_wp2_with fail
        refine (xHead_any (c : Int) _).mono ?_
        rw [hcl.out]
        rintro e w6 ⟨rfl, hb6⟩
        have B6 := Lib.hid (bnext B5.out hb6)
        clear hb6
        go_wp2
        go_ret
        exact ⟨rfl, B6.out⟩
set_option maxRecDepth 100000 in
theorem lifted (os : Os) (started : os.Started) (H : Type) (enc : TypeId × Value → H) :
    ReturnsInHanded {} Tryd.checked os 3 .any (fun w args => (Rows.journalHeadsSpec.pre enc Tryd.prog Tryd.f3 [] false w args ∧ laidMetH Tryd.prog laidT w) ∧ sizedMet enc Tryd.prog Tryd.f3 (OpenSpec.ofChange Rows.journalHeadsSpec) false w args)
      (Rows.journalHeadsSpec.post enc Tryd.prog Tryd.f3 false true false false) := by
  refine returnsInHanded_of_change_and (C := Tryd.checked) (X := fun w _ => laidMetH Tryd.prog laidT w) (fun _ _ _ hh h => h.of_heap hh) own started (by kernel_rfl) Tryd.func3
    (ChangeSpec.witness_shaped (enc := enc) (C := Tryd.checked) (os := os) (X := fun w _ => laidMetH Tryd.prog laidT w) false (World.doorLaid Tryd.prog 400 os) #[.int .i64 0, .string ByteArray.empty] 8 rfl (World.shaped_of_RefB (by kernel_rfl) (by kernel_rfl)) (by kernel_rfl) (by kernel_rfl) (by kernel_rfl) (door_met os _)) ?_
  intro W base args ds gs before hval0 hW _ _ hL _
  have hval : ∀ (j : Nat) t v, Tryd.f3.params[j]? = some t → args[j]? = some v → Value.okWide Tryd.prog W .any base t v := hval0
  have hW' := hW
  obtain ⟨p, q, hA0, hV, rfl, hfz, hnd⟩ := hW
  have hA : DataW.TrodAll enc Tryd.prog W 0 (fun _ => true) true Tryd.f3.params.toList args.toList ds p := hA0
  rw [Tryd.params3] at hA hval
  obtain ⟨v0, vs0, d0, ds0, p0, q0, hargs, rfl, rfl, h0, r0⟩ := trodAll_cons hA
  obtain ⟨v1, vs1, d1, ds1, p1, q1, rfl, rfl, rfl, h1, r1⟩ := trodAll_cons r0
  obtain ⟨rfl, rfl, rfl⟩ := trodAll_nil r1
  obtain rfl : args = #[v0, v1] := by cases args; simp_all
  obtain ⟨a0, rfl, rfl, rfl, w0⟩ := open_int Tryd.underlying3 (hval 0 3 v0 rfl rfl) h0
  obtain ⟨s1, rfl, rfl, rfl, w1⟩ := open_string Tryd.underlying9 (hval 1 9 v1 rfl rfl) h1
  obtain ⟨a1, rfl⟩ := str_of s1
  rw [str_size] at w1
  clear hA0 hval0
  refine (walk a0 a1 W w0 w1 (tab_of_laid hL)).mono fun e W' ⟨he, bel⟩ => ?_
  subst he
  exact ⟨_, rfl, law_post laidOut (by rw [Tryd.params3]; decide +kernel) rfl Tryd.underlying4 rfl hW' (fun _ => rfl) bel⟩
theorem over : Rows.journalHeadsRow.holds Tryd.pinned (OpenSpec.ofChange Rows.journalHeadsSpec) :=
  OpenClaim.holds_of_wide 3 Tryd.f3 rfl rfl rfl rfl rfl rfl rfl ⟨rfl, rfl, rfl, rfl, rfl⟩ rfl rfl rfl rfl rfl (by kernel_rfl) Tryd.func3 (by kernel_rfl)
    (of_decide_eq_true (by kernel_rfl)) (by unfold Func.isWrapper; first | (rw [if_pos (by decide +kernel)]; kernel_rfl) | (rw [if_neg (by decide +kernel)]; exact ⟨rfl, rfl⟩))
    (fun os started H enc _ => lifted os started H enc)
theorem proved : Rows.JournalHeadsCardSaid :=
  Claim7.holds_tied_plain_at .later [] [.data] true Rows.journalHeadsCard.stood.harness false over (fun _ h => by cases h) (by kernel_rfl) (fun _ h => by cases h) journalHeads_row_tie rfl ⟨rfl, rfl⟩ (by kernel_rfl) rfl
    (fun f fn hf hfn => by
      obtain rfl : f = 3 := Option.some.inj ((show Tryd.prog.funcNamed "lockgate/lockgatelaw11.JournalHeads" = some 3 by kernel_rfl).symm.trans hf) |>.symm
      obtain rfl : fn = Tryd.f3 := (Option.some.inj (Tryd.func3.symm.trans hfn)).symm
      exact ⟨by kernel_rfl, fun j t ht => by
        rw [Tryd.params3] at ht
        have hm : t ∈ [3, 9] := by simpa using Array.mem_of_getElem? ht
        have hall : ([3, 9].all fun u => !Tryd.prog.wantsStandIn u) = true := by kernel_rfl
        exact (show Tryd.prog.wantsStandIn t = false by simpa using List.all_eq_true.1 hall t hm)⟩)
    (by kernel_rfl)
end Go.Proofs.YtgncmgchoogmpaaDoor.journalHeads
