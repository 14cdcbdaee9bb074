/- Which texts are names, which are paths, and names' zones, are as the document says: EntryNames. -/
import Derived.Test.YtnoidhfhnaemgaaDoorTied15
import Derived.Test.YtnoidhfhnaemgaaDoorAw15

namespace Go.Proofs.YtnoidhfhnaemgaaDoor.entryNames
open Go.RowKit Go.ChangeShapes Go.WideShapes Go.ChangeAt
open Go.ChangeMaps (open_string shut_string)

set_option maxRecDepth 100000 in
set_option maxHeartbeats 4000000 in
theorem walk (s t : List UInt8) (w : World) (hs : s.length ≤ maxLen) (ht : t.length ≤ maxLen) (hm : Mx w) :
    Calls Tryd.prog 3 #[.string (str s), .string (str t)] w fun e w' => e = .returned (.bool true) ∧ Below w.heap.size w w' := by
  unfold maxLen at hs ht
  have HM := Lib.hid hm
  go_enter Tryd.func3, Tryd.ntmps3
  go_wp2_with fail
  refine (awk15_any w hm).mono ?_
  rintro e w1 ⟨rfl, b1⟩
  have B1 := Lib.hid b1
  clear b1 hm
  go_wp2_with fail
  refine (short15_any s 60 (by decide) hs w1).mono ?_
  rintro e w2 ⟨rfl, rfl⟩
  obtain ⟨a, Ha⟩ : ∃ a, Hid (s.take 60 = a) := ⟨_, Lib.hid rfl⟩
  have ha : a.length ≤ 60 := by rw [← Ha.out, List.length_take]; omega
  rw [Ha.out]
  go_wp2_with fail
  refine (short15_any t 400 (by decide) ht w1).mono ?_
  rintro e w2 ⟨rfl, rfl⟩
  obtain ⟨b, Hb⟩ : ∃ a, Hid (t.take 400 = a) := ⟨_, Lib.hid rfl⟩
  have hb : b.length ≤ 400 := by rw [← Hb.out, List.length_take]; omega
  rw [Hb.out]
  go_wp2_with fail
  refine (Split_any b (by omega) w1 (HM.out.below B1.out)).mono ?_
  rintro e w2 ⟨A1, n1, c1, X1, t1, rfl, h1, s1, b2⟩
  have T2 : Hid (IsG w2 1 encT A1 n1 X1 ∧ Splits b X1 t1 ∧ Below w.heap.size w w2) := Lib.hid ⟨h1, s1, bnext B1.out b2⟩
  clear h1 s1 b2
  go_wp2_with fail
  refine (XSplit_any b (by omega) w2).mono ?_
  rintro e w3 ⟨A2, n2, c2, X2, t2, rfl, h2, s2, b3⟩
  obtain ⟨e1, e2⟩ := s2.same T2.out.2.1
  subst e1 e2
  have T3 : Hid (IsG w3 1 encT A1 n1 X2 ∧ IsG w3 1 encT A2 n2 X2 ∧ Below w.heap.size w w3) := Lib.hid ⟨T2.out.1.below b3, h2, bnext T2.out.2.2 b3⟩
  have hn1 : n1 ≤ 1000 := by rw [← T3.out.1.length]; have := T2.out.2.1.len; omega
  have hn2 : n2 ≤ 1000 := by rw [← T3.out.2.1.length]; have := T2.out.2.1.len; omega
  clear h2 s2 b3
  go_wp2_with fail
  refine (SameNames_any X2 X2 A1 A2 n1 c1 n2 c2 w3 T3.out.1 T3.out.2.1 hn1 hn2).mono ?_
  rw [decide_eq_true rfl]
  rintro e w4 ⟨rfl, b4⟩
  have B4 := Lib.hid (bnext T3.out.2.2 b4)
  clear b4
  obtain ⟨nb, Hnb⟩ : ∃ x, Hid (nameB a = x) := ⟨_, Lib.hid rfl⟩
  obtain ⟨za, Hza⟩ : ∃ x, Hid (zoneU a = x) := ⟨_, Lib.hid rfl⟩
  go_wp2_with fail
  refine (Name_any a w4).mono ?_
  rw [Hnb.out]
  rintro e w5 ⟨rfl, b5⟩
  have B5 := Lib.hid (bnext B4.out b5)
  clear b5
  go_wp2_with fail
  refine (XName_any a w5).mono ?_
  rw [Hnb.out]
  rintro e w6 ⟨rfl, b6⟩
  have B6 := Lib.hid (bnext B5.out b6)
  clear b6
  have hnn : (nb == nb) = true := by simp
  have htt : (t2 == t2) = true := by simp
  go_wp2_with fail
  refine (Zone_any a (by omega) w6).mono ?_
  rw [Hza.out]
  rintro e w7 ⟨rfl, b7⟩
  have B7 := Lib.hid (bnext B6.out b7)
  clear b7
  go_wp2_with fail
  refine (XZone_any a (by omega) w7).mono ?_
  rw [Hza.out]
  rintro e w8 ⟨rfl, b8⟩
  have B8 := Lib.hid (bnext B7.out b8)
  clear b8
  go_wp2_with fail
  go_ret
  exact ⟨ret_bool (by first | rfl | simp), B8.out⟩
set_option maxRecDepth 100000 in
theorem lifted (os : Os) (started : os.Started) (H : Type) (enc : TypeId × Value → H) :
    ReturnsInHanded {} Tryd.checked os 3 .any (fun w args => (Rows.entryNamesSpec.pre enc Tryd.prog Tryd.f3 [] false w args ∧ laidMetH Tryd.prog laidT w) ∧ sizedMet enc Tryd.prog Tryd.f3 (OpenSpec.ofChange Rows.entryNamesSpec) false w args)
      (Rows.entryNamesSpec.post enc Tryd.prog Tryd.f3 false true false false) := by
  refine lift15 (C := Tryd.checked) (X := fun w _ => laidMetH Tryd.prog laidT w) (fun _ _ _ hh h => h.of_heap hh) own started (by kernel_rfl) Tryd.func3
    (ChangeSpec.witness_shaped (enc := enc) (C := Tryd.checked) (os := os) (X := fun w _ => laidMetH Tryd.prog laidT w) false (World.laidAll Tryd.prog os laidT) #[.string ByteArray.empty, .string ByteArray.empty] 8 (World.laidAll_os _ _ _) (World.shaped_of_ZipB (by kernel_rfl) (by kernel_rfl)) (by kernel_rfl) (by kernel_rfl) (by kernel_rfl) (door_met os _)) ?_
  intro W base args ds gs before hval0 hW _ _ _ hsh _
  have hval : ∀ (j : Nat) t v, Tryd.f3.params[j]? = some t → args[j]? = some v → Value.okWide Tryd.prog W .any base t v := hval0
  have hW' := hW
  obtain ⟨p, q, hA0, hV, rfl, hfz, hnd⟩ := hW
  have hA : DataW.TrodAll enc Tryd.prog W 0 (fun _ => true) true Tryd.f3.params.toList args.toList ds p := hA0
  rw [Tryd.params3] at hA hval
  obtain ⟨v0, vs0, d0, ds0, p0, q0, hargs, rfl, rfl, h0, r0⟩ := trodAll_cons hA
  obtain ⟨v1, vs1, d1, ds1, p1, q1, rfl, rfl, rfl, h1, r1⟩ := trodAll_cons r0
  obtain ⟨rfl, rfl, rfl⟩ := trodAll_nil r1
  obtain rfl : args = #[v0, v1] := by cases args; simp_all
  obtain ⟨s0, rfl, rfl, rfl, w0⟩ := open_string Tryd.underlying9 (hval 0 9 v0 rfl rfl) h0
  obtain ⟨a0, rfl⟩ := str_of s0
  rw [str_size] at w0
  obtain ⟨s1, rfl, rfl, rfl, w1⟩ := open_string Tryd.underlying9 (hval 1 9 v1 rfl rfl) h1
  obtain ⟨a1, rfl⟩ := str_of s1
  rw [str_size] at w1
  clear hA0 hval0
  refine (walk a0 a1 W w0 w1 (mx_of_shape hsh)).mono fun e W' ⟨he, bel⟩ => ?_
  subst he
  exact ⟨_, rfl, law_post laidOut (by rw [Tryd.params3]; decide +kernel) rfl Tryd.underlying4 rfl hW' (fun _ => rfl) bel⟩
theorem over : Rows.entryNamesRow.holds Tryd.pinned (OpenSpec.ofChange Rows.entryNamesSpec) :=
  OpenClaim.holds_of_wide 3 Tryd.f3 rfl rfl rfl rfl rfl rfl rfl ⟨rfl, rfl, rfl, rfl, rfl⟩ rfl rfl rfl rfl rfl (by kernel_rfl) Tryd.func3 (by kernel_rfl)
    (of_decide_eq_true (by kernel_rfl)) (by unfold Func.isWrapper; first | (rw [if_pos (by decide +kernel)]; kernel_rfl) | (rw [if_neg (by decide +kernel)]; exact ⟨rfl, rfl⟩))
    (fun os started H enc _ => lifted os started H enc)
theorem proved : Rows.EntryNamesCardSaid :=
  Claim7.holds_tied_plain_at .later [] [.data, .pinned] true Rows.entryNamesCard.stood.harness false over (fun _ h => by cases h) (by kernel_rfl) (fun _ h => by cases h) entryNames_row_tie rfl ⟨rfl, rfl⟩ (by kernel_rfl) rfl
    (fun f fn hf hfn => by
      obtain rfl : f = 3 := Option.some.inj ((show Tryd.prog.funcNamed "lockgate/lockgatelaw15.EntryNames" = some 3 by kernel_rfl).symm.trans hf) |>.symm
      obtain rfl : fn = Tryd.f3 := (Option.some.inj (Tryd.func3.symm.trans hfn)).symm
      exact ⟨by kernel_rfl, fun j t ht => by
        rw [Tryd.params3] at ht
        have hm : t ∈ [9, 9] := by simpa using Array.mem_of_getElem? ht
        have hall : ([9, 9].all fun u => !Tryd.prog.wantsStandIn u) = true := by kernel_rfl
        exact (show Tryd.prog.wantsStandIn t = false by simpa using List.all_eq_true.1 hall t hm)⟩)
    (by kernel_rfl)
end Go.Proofs.YtnoidhfhnaemgaaDoor.entryNames
