/- The zone of two texts put together is the sum of theirs: EntryZones. -/
import Derived.Test.YtnoidhfhnaemgaaDoorTied15
import Derived.Test.YtnoidhfhnaemgaaDoorAw15

namespace Go.Proofs.YtnoidhfhnaemgaaDoor.entryZones
open Go.RowKit Go.ChangeShapes Go.WideShapes Go.ChangeAt
open Go.ChangeMaps (open_string shut_string)

set_option maxRecDepth 100000 in
set_option maxHeartbeats 4000000 in
theorem walk (s t : List UInt8) (w : World) (hs : s.length ≤ maxLen) (ht : t.length ≤ maxLen) (hm : Mx w) :
    Calls Tryd.prog 8 #[.string (str s), .string (str t)] w fun e w' => e = .returned (.bool true) ∧ Below w.heap.size w w' := by
  unfold maxLen at hs ht
  go_enter Tryd.func8, Tryd.ntmps8
  go_wp2_with fail
  refine (awk15_any w hm).mono ?_
  rintro e w1 ⟨rfl, b1⟩
  have B1 := Lib.hid b1
  clear b1 hm
  go_wp2_with fail
  refine (short15_any s 100 (by decide) hs w1).mono ?_
  rintro e w2 ⟨rfl, rfl⟩
  obtain ⟨a, Ha⟩ : ∃ a, Hid (s.take 100 = a) := ⟨_, Lib.hid rfl⟩
  have ha : a.length ≤ 100 := by rw [← Ha.out, List.length_take]; omega
  rw [Ha.out]
  go_wp2_with fail
  refine (short15_any t 100 (by decide) ht w1).mono ?_
  rintro e w2 ⟨rfl, rfl⟩
  obtain ⟨b, Hb⟩ : ∃ a, Hid (t.take 100 = a) := ⟨_, Lib.hid rfl⟩
  have hb : b.length ≤ 100 := by rw [← Hb.out, List.length_take]; omega
  rw [Hb.out]
  have hab : ¬ 9223372036854775807 < a.length + b.length := by omega
  have hba : ¬ 9223372036854775807 < b.length + a.length := by omega
  have hl1 : (a ++ b).length ≤ 1000000 := by rw [List.length_append]; omega
  have hl2 : (b ++ a).length ≤ 1000000 := by rw [List.length_append]; omega
  obtain ⟨za, Hza⟩ : ∃ x, Hid (zoneU a = x) := ⟨_, Lib.hid rfl⟩
  obtain ⟨zb, Hzb⟩ : ∃ x, Hid (zoneU b = x) := ⟨_, Lib.hid rfl⟩
  obtain ⟨zc, Hzc⟩ : ∃ x, Hid (zoneU (a ++ b) = x) := ⟨_, Lib.hid rfl⟩
  have hza : za < 4 := by rw [← Hza.out]; exact zoneU_lt _
  have hzb : zb < 4 := by rw [← Hzb.out]; exact zoneU_lt _
  have hzc : zc < 4 := by rw [← Hzc.out]; exact zoneU_lt _
  have Hs : Hid (zc = (za + zb) % 4) := Lib.hid (by rw [← Hza.out, ← Hzb.out, ← Hzc.out, zoneU_append])
  have Hr : Hid (zoneU (b ++ a) = zc) := Lib.hid (by rw [zoneU_append, Hs.out, ← Hza.out, ← Hzb.out, Nat.add_comm])
  go_wp2_with fail
  refine (Zone_any (a ++ b) hl1 w1).mono ?_
  rw [Hzc.out]
  rintro e w2 ⟨rfl, b2⟩
  have B2 := Lib.hid (bnext B1.out b2)
  clear b2
  go_wp2_with fail
  refine (Zone_any a (by omega) w2).mono ?_
  rw [Hza.out]
  rintro e w3 ⟨rfl, b3⟩
  have B3 := Lib.hid (bnext B2.out b3)
  clear b3
  go_wp2_with fail
  refine (Zone_any b (by omega) w3).mono ?_
  rw [Hzb.out]
  rintro e w4 ⟨rfl, b4⟩
  have B4 := Lib.hid (bnext B3.out b4)
  clear b4
  have h1 : ((zc : Int) == ((za : Int) + (zb : Int)) % 4) = true := by have := Hs.out; simp; omega
  have h1t : ((za : Int) + (zb : Int)).tmod 4 = (zc : Int) := by have := Hs.out; rw [Int.tmod_eq_emod_of_nonneg (by omega)]; omega
  have h2 : (0 : Int) ≤ (zc : Int) := by omega
  have h3 : (zc : Int) < 4 := by omega
  go_wp2_with fail
  refine (Zone_any (b ++ a) hl2 w4).mono ?_
  rw [Hr.out]
  rintro e w5 ⟨rfl, b5⟩
  have B5 := Lib.hid (bnext B4.out b5)
  clear b5
  go_wp2_with fail
  go_ret
  exact ⟨ret_bool (by first | rfl | simp), B5.out⟩
set_option maxRecDepth 100000 in
theorem lifted (os : Os) (started : os.Started) (H : Type) (enc : TypeId × Value → H) :
    ReturnsInHanded {} Tryd.checked os 8 .any (fun w args => (Rows.entryZonesSpec.pre enc Tryd.prog Tryd.f8 [] false w args ∧ laidMetH Tryd.prog laidT w) ∧ sizedMet enc Tryd.prog Tryd.f8 (OpenSpec.ofChange Rows.entryZonesSpec) false w args)
      (Rows.entryZonesSpec.post enc Tryd.prog Tryd.f8 false true false false) := by
  refine lift15 (C := Tryd.checked) (X := fun w _ => laidMetH Tryd.prog laidT w) (fun _ _ _ hh h => h.of_heap hh) own started (by kernel_rfl) Tryd.func8
    (ChangeSpec.witness_shaped (enc := enc) (C := Tryd.checked) (os := os) (X := fun w _ => laidMetH Tryd.prog laidT w) false (World.laidAll Tryd.prog os laidT) #[.string ByteArray.empty, .string ByteArray.empty] 8 (World.laidAll_os _ _ _) (World.shaped_of_ZipB (by kernel_rfl) (by kernel_rfl)) (by kernel_rfl) (by kernel_rfl) (by kernel_rfl) (door_met os _)) ?_
  intro W base args ds gs before hval0 hW _ _ _ hsh _
  have hval : ∀ (j : Nat) t v, Tryd.f8.params[j]? = some t → args[j]? = some v → Value.okWide Tryd.prog W .any base t v := hval0
  have hW' := hW
  obtain ⟨p, q, hA0, hV, rfl, hfz, hnd⟩ := hW
  have hA : DataW.TrodAll enc Tryd.prog W 0 (fun _ => true) true Tryd.f8.params.toList args.toList ds p := hA0
  rw [Tryd.params8] at hA hval
  obtain ⟨v0, vs0, d0, ds0, p0, q0, hargs, rfl, rfl, h0, r0⟩ := trodAll_cons hA
  obtain ⟨v1, vs1, d1, ds1, p1, q1, rfl, rfl, rfl, h1, r1⟩ := trodAll_cons r0
  obtain ⟨rfl, rfl, rfl⟩ := trodAll_nil r1
  obtain rfl : args = #[v0, v1] := by cases args; simp_all
  obtain ⟨s0, rfl, rfl, rfl, w0⟩ := open_string Tryd.underlying9 (hval 0 9 v0 rfl rfl) h0
  obtain ⟨a0, rfl⟩ := str_of s0
  rw [str_size] at w0
  obtain ⟨s1, rfl, rfl, rfl, w1⟩ := open_string Tryd.underlying9 (hval 1 9 v1 rfl rfl) h1
  obtain ⟨a1, rfl⟩ := str_of s1
  rw [str_size] at w1
  clear hA0 hval0
  refine (walk a0 a1 W w0 w1 (mx_of_shape hsh)).mono fun e W' ⟨he, bel⟩ => ?_
  subst he
  exact ⟨_, rfl, law_post laidOut (by rw [Tryd.params8]; decide +kernel) rfl Tryd.underlying4 rfl hW' (fun _ => rfl) bel⟩
theorem over : Rows.entryZonesRow.holds Tryd.pinned (OpenSpec.ofChange Rows.entryZonesSpec) :=
  OpenClaim.holds_of_wide 8 Tryd.f8 rfl rfl rfl rfl rfl rfl rfl ⟨rfl, rfl, rfl, rfl, rfl⟩ rfl rfl rfl rfl rfl (by kernel_rfl) Tryd.func8 (by kernel_rfl)
    (of_decide_eq_true (by kernel_rfl)) (by unfold Func.isWrapper; first | (rw [if_pos (by decide +kernel)]; kernel_rfl) | (rw [if_neg (by decide +kernel)]; exact ⟨rfl, rfl⟩))
    (fun os started H enc _ => lifted os started H enc)
theorem proved : Rows.EntryZonesCardSaid :=
  Claim7.holds_tied_plain_at .later [] [.data, .pinned] true Rows.entryZonesCard.stood.harness false over (fun _ h => by cases h) (by kernel_rfl) (fun _ h => by cases h) entryZones_row_tie rfl ⟨rfl, rfl⟩ (by kernel_rfl) rfl
    (fun f fn hf hfn => by
      obtain rfl : f = 8 := Option.some.inj ((show Tryd.prog.funcNamed "lockgate/lockgatelaw15.EntryZones" = some 8 by kernel_rfl).symm.trans hf) |>.symm
      obtain rfl : fn = Tryd.f8 := (Option.some.inj (Tryd.func8.symm.trans hfn)).symm
      exact ⟨by kernel_rfl, fun j t ht => by
        rw [Tryd.params8] at ht
        have hm : t ∈ [9, 9] := by simpa using Array.mem_of_getElem? ht
        have hall : ([9, 9].all fun u => !Tryd.prog.wantsStandIn u) = true := by kernel_rfl
        exact (show Tryd.prog.wantsStandIn t = false by simpa using List.all_eq_true.1 hall t hm)⟩)
    (by kernel_rfl)
end Go.Proofs.YtnoidhfhnaemgaaDoor.entryZones
