/- How a text is cut into parts does not matter for its sum. -/
import Derived.Test.YtbniahmnjljgmaaDoorFew02
import Derived.Test.YtbniahmnjljgmaaDoorTied02
namespace Go.Proofs.YtbniahmnjljgmaaDoor.crcParts
open Go.RowKit Go.ChangeShapes Go.WideShapes Go.ChangeAt
open Go.ChangeMaps (open_string shut_string)

theorem flat_len : ∀ (ss : List (List UInt8)), (∀ l ∈ ss, l.length ≤ 200) → ss.flatten.length ≤ 200 * ss.length
  | [], _ => by simp
  | l :: ss, h => by
    have h1 := flat_len ss (fun x hx => h x (by simp [hx]))
    have h2 := h l (by simp)
    rw [List.flatten_cons, List.length_append, List.length_cons]
    omega
theorem flat_snoc (ss : List (List UInt8)) (l : List UInt8) : (ss ++ [l]).flatten = ss.flatten ++ l := by simp
set_option maxRecDepth 100000 in
set_option maxHeartbeats 4000000 in
theorem walk (x : Option Addr) (len cap : Nat) (a : List (List UInt8)) (c : Int) (w : World) (h : IsStrs w x len a) (hc : (Lit.int .u32 c).wf = true) (hT : Tab w) :
    Calls Tryd.prog 5 #[.slice x len cap, .int .u32 c] w fun e w' => e = .returned (.bool true) ∧ Below w.heap.size w w' := by
  obtain ⟨c, rfl⟩ : ∃ x, c = uv x := uv_wf c hc
  clear hc
  go_enter Tryd.func5, Tryd.ntmps5
  go_wp2_with fail
  refine (awake_any _ hT).mono ?_
  rintro e w1 ⟨rfl, hb1⟩
  have Hb1 := Lib.hid hb1
  clear hb1
  go_wp2_with fail
  refine (few_any _ _ _ _ _ (h.below Hb1.out)).mono ?_
  rintro e w2 ⟨y, n, q, rfl, hs, hb2⟩
  have Hs := Lib.hid hs
  have Hb2 := Lib.hid (bnext Hb1.out hb2)
  have HT2 := Lib.hid (hT.below Hb2.out)
  clear hs hb2 h
  obtain ⟨ss, Hss⟩ : ∃ ss, Hid (fewS a = ss) := ⟨_, Lib.hid rfl⟩
  have h200 : ∀ l ∈ ss, l.length ≤ 200 := Hss.out ▸ fewS_short a
  have hn : ss.length = n := Hss.out ▸ Hs.out.length
  have hn20 : n ≤ 20 := hn ▸ Hss.out ▸ fewS_length a
  rw [Hss.out] at Hs
  go_wp2_with fail
  go_loop [7, 8, 9] (fun s t i => ∃ k : Nat, k ≤ n ∧ i = .int .i64 k ∧ s = .string (str (ss.take k).flatten) ∧ t = .int .u32 (uv (sums c (ss.take k)))) (fun _ _ i => n - (intOf i).toNat)
  case atStart => exact ⟨0, Nat.zero_le _, rfl, rfl, rfl⟩
  case round =>
    obtain ⟨k, hk, rfl, rfl, rfl⟩ := hrel
    by_cases hlt : k < n
    · obtain ⟨b', off, ea, hc⟩ := Hs.out.cells (by omega)
      have hck := hc k hlt
      have hmem : ss.getD k [] ∈ ss := by
        rw [List.getD_eq_getElem?_getD, List.getElem?_eq_getElem (by omega)]
        exact List.getElem_mem _
      have hx200 := h200 _ hmem
      have hsn := takeS_snoc ss k (by omega)
      obtain ⟨x, Hx⟩ : ∃ x, Hid (ss.getD k [] = x) := ⟨_, Lib.hid rfl⟩
      rw [Hx.out] at hck hx200 hsn
      have Hsn := Lib.hid hsn
      subst ea
      clear hc hsn hmem
      obtain ⟨R, HR⟩ : ∃ R, Hid ((ss.take k).flatten = R) := ⟨_, Lib.hid rfl⟩
      have hR : R.length ≤ 4000 := by
        have h1 := flat_len (ss.take k) (fun l hl => h200 l (List.mem_of_mem_take hl))
        rw [HR.out, List.length_take] at h1
        omega
      have g1 : ¬ (9223372036854775807 < R.length + x.length) := by omega
      rw [HR.out]
      go_wp2_with fail
      refine (Add_any _ _ (by unfold maxLen; omega) _ HT2.out).mono ?_
      rintro e w3 ⟨rfl, rfl⟩
      go_wp2
      go_round
      case rel =>
        refine ⟨k + 1, by omega, by go_num, ?_, ?_⟩
        · rw [Hsn.out, flat_snoc, HR.out]
        · rw [Hsn.out, sums_snoc]
      case measure => simp [intOf]; omega
    · obtain rfl : k = n := by omega
      rw [List.take_of_length_le (by omega), sums_join]
      have hL : ss.flatten.length ≤ maxLen := by
        have := flat_len ss h200
        unfold maxLen
        omega
      have e1 := sums_join ss 0#32
      obtain ⟨R, HR⟩ : ∃ R, Hid (ss.flatten = R) := ⟨_, Lib.hid rfl⟩
      rw [HR.out] at hL e1 ⊢
      have E1 := Lib.hid e1
      clear e1
      go_wp2_with fail
      refine (Of_any _ _ _ _ _ Hs.out HT2.out).mono ?_
      rintro e w3 ⟨rfl, rfl⟩
      go_wp2_with fail
      refine (Of_any _ _ _ [R] _ (strs_lit1n _ _ R hL (by simp)) (HT2.out.below ((Below.refl _ _).alloc (Nat.le_refl _) _))).mono ?_
      rintro e w3 ⟨rfl, rfl⟩
      rw [E1.out, show sums 0#32 [R] = Crc.add 0#32 R from rfl]
      have HT3 : ∀ o, Hid (Tab (w2.alloc o)) := fun o => Lib.hid (HT2.out.below ((Below.refl _ _).alloc (Nat.le_refl _) _))
      go_wp2_with fail
      refine (Add_any _ _ hL _ (HT3 _).out).mono ?_
      rintro e w3 ⟨rfl, rfl⟩
      have hz := Add_any 0#32 R hL
      rw [show uv 0#32 = 0 by decide] at hz
      go_wp2_with fail
      refine (hz _ (HT3 _).out).mono ?_
      rintro e w3 ⟨rfl, rfl⟩
      go_wp2_with fail
      refine (Of_any _ _ _ [R] _ (strs_lit1n _ _ R hL (by simp)) ((HT3 _).out.below ((Below.refl _ _).alloc (Nat.le_refl _) _))).mono ?_
      rintro e w3 ⟨rfl, rfl⟩
      rw [show sums 0#32 [R] = Crc.add 0#32 R from rfl]
      go_wp2
      go_ret
      exact ⟨rfl, balloc (balloc Hb2.out _) _⟩
set_option maxRecDepth 100000 in
theorem lifted (os : Os) (started : os.Started) (H : Type) (enc : TypeId × Value → H) :
    ReturnsInHanded {} Tryd.checked os 5 .any (fun w args => (Rows.crcPartsSpec.pre enc Tryd.prog Tryd.f5 [] false w args ∧ laidMetH Tryd.prog laidT w) ∧ sizedMet enc Tryd.prog Tryd.f5 (OpenSpec.ofChange Rows.crcPartsSpec) false w args)
      (Rows.crcPartsSpec.post enc Tryd.prog Tryd.f5 false true false false) := by
  refine returnsInHanded_of_change_and (C := Tryd.checked) (X := fun w _ => laidMetH Tryd.prog laidT w) (fun _ _ _ hh h => h.of_heap hh) own started (by kernel_rfl) Tryd.func5
    (ChangeSpec.witness_shaped (enc := enc) (C := Tryd.checked) (os := os) (X := fun w _ => laidMetH Tryd.prog laidT w) false (World.doorLaid Tryd.prog 400 os) #[.slice none 0 0, .int .u32 0] 8 rfl (World.shaped_of_RefB (by kernel_rfl) (by kernel_rfl)) (by kernel_rfl) (by kernel_rfl) (by kernel_rfl) (door_met os _)) ?_
  intro W base args ds gs before hval0 hW _ _ hL _
  have hval : ∀ (j : Nat) t v, Tryd.f5.params[j]? = some t → args[j]? = some v → Value.okWide Tryd.prog W .any base t v := hval0
  have hW' := hW
  obtain ⟨p, q, hA0, hV, rfl, hfz, hnd⟩ := hW
  have hA : DataW.TrodAll enc Tryd.prog W 0 (fun _ => true) true Tryd.f5.params.toList args.toList ds p := hA0
  rw [Tryd.params5] at hA hval
  obtain ⟨v0, vs0, d0, ds0, p0, q0, hargs, rfl, rfl, h0, r0⟩ := trodAll_cons hA
  obtain ⟨v1, vs1, d1, ds1, p1, q1, rfl, rfl, rfl, h1, r1⟩ := trodAll_cons r0
  obtain ⟨rfl, rfl, rfl⟩ := trodAll_nil r1
  obtain rfl : args = #[v0, v1] := by cases args; simp_all
  obtain ⟨x0, len0, cap0, a0, rfl, w0⟩ := opens_strs Tryd.underlying29 Tryd.underlying9 (by kernel_rfl) (hval 0 29 v0 rfl rfl) h0
  obtain ⟨a1, rfl, rfl, rfl, w1⟩ := open_int Tryd.underlying22 (hval 1 22 v1 rfl rfl) h1
  clear hA0 hval0
  refine (walk x0 len0 cap0 a0 a1 W w0 w1 (tab_of_laid hL)).mono fun e W' ⟨he, bel⟩ => ?_
  subst he
  exact ⟨_, rfl, law_post laidOut (by rw [Tryd.params5]; decide +kernel) rfl Tryd.underlying4 rfl hW' (fun _ => rfl) bel⟩
theorem over : Rows.crcPartsRow.holds Tryd.pinned (OpenSpec.ofChange Rows.crcPartsSpec) :=
  OpenClaim.holds_of_wide 5 Tryd.f5 rfl rfl rfl rfl rfl rfl rfl ⟨rfl, rfl, rfl, rfl, rfl⟩ rfl rfl rfl rfl rfl (by kernel_rfl) Tryd.func5 (by kernel_rfl)
    (of_decide_eq_true (by kernel_rfl)) (by unfold Func.isWrapper; first | (rw [if_pos (by decide +kernel)]; kernel_rfl) | (rw [if_neg (by decide +kernel)]; exact ⟨rfl, rfl⟩))
    (fun os started H enc _ => lifted os started H enc)
theorem proved : Rows.CrcPartsCardSaid :=
  Claim7.holds_tied_plain_at .later [] [.data] true Rows.crcPartsCard.stood.harness false over (fun _ h => by cases h) (by kernel_rfl) (fun _ h => by cases h) crcParts_row_tie rfl ⟨rfl, rfl⟩ (by kernel_rfl) rfl
    (fun f fn hf hfn => by
      obtain rfl : f = 5 := Option.some.inj ((show Tryd.prog.funcNamed "lockgate/lockgatelaw02.CrcParts" = some 5 by kernel_rfl).symm.trans hf) |>.symm
      obtain rfl : fn = Tryd.f5 := (Option.some.inj (Tryd.func5.symm.trans hfn)).symm
      exact ⟨by kernel_rfl, fun j t ht => by
        rw [Tryd.params5] at ht
        have hm : t ∈ [29, 22] := by simpa using Array.mem_of_getElem? ht
        have hall : ([29, 22].all fun u => !Tryd.prog.wantsStandIn u) = true := by kernel_rfl
        exact (show Tryd.prog.wantsStandIn t = false by simpa using List.all_eq_true.1 hall t hm)⟩)
    (by kernel_rfl)
end Go.Proofs.YtbniahmnjljgmaaDoor.crcParts
