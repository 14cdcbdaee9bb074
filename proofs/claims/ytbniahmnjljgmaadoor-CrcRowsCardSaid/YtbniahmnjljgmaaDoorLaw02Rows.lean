/- The sum of a row of texts is that of the document's answer, for every row. -/
import Derived.Test.YtbniahmnjljgmaaDoorFew02
import Derived.Test.YtbniahmnjljgmaaDoorTied02
import Derived.Deep.RegionHeld3
namespace Go.Proofs.YtbniahmnjljgmaaDoor.crcRows
open Go.RowKit Go.ChangeShapes Go.WideShapes Go.ChangeAt
open Go.ChangeMaps (open_string shut_string)

theorem rowed_len : ∀ (ss : List (List UInt8)), (∀ l ∈ ss, l.length ≤ 200) → (rowed ss).length ≤ 208 * ss.length
  | [], _ => by simp [rowed]
  | l :: ss, h => by
    have h1 := rowed_len ss (fun x hx => h x (by simp [hx]))
    have h2 := h l (by simp)
    have e : (rowed (l :: ss)).length = 8 + l.length + (rowed ss).length := by simp [rowed, be_length]; omega
    rw [e, List.length_cons]
    omega
theorem rowed_snoc (ss : List (List UInt8)) (l : List UInt8) : rowed (ss ++ [l]) = rowed ss ++ (be 8 l.length ++ l) := by simp [rowed]
theorem XRow_any (a : Option Addr) (len cap : Nat) (ss : List (List UInt8)) (w : World) (h : IsStrs w a len ss) (hl20 : len ≤ 20) (h200 : ∀ l ∈ ss, l.length ≤ 200) :
    Calls Tryd.prog 18 #[.slice a len cap] w fun e w' => e = .returned (.int .u32 (uv (rows 0#32 ss))) ∧ Below w.heap.size w w' := by
  have hl := h.length
  go_enter Tryd.func18, Tryd.ntmps18
  go_wp2
  go_loopw [3, 4] (fun s i wr => ∃ k : Nat, k ≤ len ∧ i = .int .i64 k ∧ s = .string (str (rowed (ss.take k))) ∧ Below w.heap.size w wr) (fun _ i _ => len - (intOf i).toNat)
  case atStart => exact ⟨0, Nat.zero_le _, rfl, rfl, Below.refl _ _⟩
  case round =>
    obtain ⟨k, hk, rfl, rfl, hbel⟩ := hrel
    have Hbel := Lib.hid hbel
    clear hbel
    by_cases hlt : k < len
    · have h' := h.below Hbel.out
      obtain ⟨b', off, ea, hc⟩ := h'.cells (by omega)
      have hck := hc k hlt
      have hmem : ss.getD k [] ∈ ss := by
        rw [List.getD_eq_getElem?_getD, List.getElem?_eq_getElem (by omega)]
        exact List.getElem_mem _
      have hx200 := h200 _ hmem
      have hsn := takeS_snoc ss k (by omega)
      obtain ⟨x, Hx⟩ : ∃ x, Hid (ss.getD k [] = x) := ⟨_, Lib.hid rfl⟩
      rw [Hx.out] at hck hx200 hsn
      have Hsn := Lib.hid hsn
      subst ea
      have hkeep : ∀ u, Below w.heap.size w u → Below w.heap.size w u ∧ u.cell? ⟨b', off + k, none⟩ = some (.string (str x)) := fun u hu => ⟨hu, by
        obtain ⟨b2, off2, e2, hc2⟩ := (h.below hu).cells (by omega)
        cases e2
        rw [hc2 k hlt, Hx.out]⟩
      have Hkeep := Lib.hid hkeep
      clear hc h' hsn hmem hkeep
      have H := Lib.hid h
      clear h
      obtain ⟨R, HR⟩ : ∃ R, Hid (rowed (ss.take k) = R) := ⟨_, Lib.hid rfl⟩
      have hR : R.length ≤ 4160 := by
        have h1 := rowed_len (ss.take k) (fun l hl => h200 l (List.mem_of_mem_take hl))
        rw [HR.out] at h1
        simp at h1
        omega
      have hbe := be_length 8 x.length
      obtain ⟨B8, HB8⟩ : ∃ B8, Hid (be 8 x.length = B8) := ⟨_, Lib.hid rfl⟩
      rw [HB8.out] at hbe
      rw [HR.out]
      have i1 : (k : Int) < (len : Int) := by omega
      have i0 : 0 ≤ (k : Int) := by omega
      have g1 : ¬ (9223372036854775807 < R.length + 8) := by omega
      have g2 : ¬ (9223372036854775807 < R.length + 8 + x.length) := by omega
      have q1 : IntKind.u64.wrap (x.length : Int) = (x.length : Int) := IntWalk.u64_in _ (by omega)
      go_wp2_with fail
      go_region_held3 (fun u => Below w.heap.size w u ∧ u.cell? ⟨b', off + k, none⟩ = some (.string (str x)))
        (first | exact Hkeep.out _ Hbel.out | exact Hkeep.out _ (Below.drew Hbel.out) | (go_split_ands; first | exact Hkeep.out _ (bnext (by assumption) hb1) | exact Hkeep.out _ (bnext (Below.drew Hbel.out) hb1)))
        (first | (go_at_call 22; refine (Num8_any _ (by omega) (by omega) _).mono ?_; rintro e wc ⟨rfl, hb1⟩; rw [Int.toNat_natCast, HB8.out]))
      go_wp2
      go_roundw
      case rel =>
        refine ⟨k + 1, by omega, by go_num, ?_, bnext (Below.drew Hbel.out) hb1⟩
        rw [Hsn.out, rowed_snoc, HR.out, HB8.out]
      case measure => simp [intOf]; omega
    · obtain rfl : k = len := by omega
      go_wp2_with fail
      rw [List.take_of_length_le (by omega)]
      refine (XOf_any _ (Nat.le_trans (rowed_len ss h200) (by unfold maxLen; omega)) _).mono ?_
      rintro e wc ⟨rfl, rfl⟩
      go_wp2
      go_ret
      exact ⟨ret_int (by rw [rows_join]), Hbel.out⟩
set_option maxHeartbeats 1000000 in
theorem walk (x : Option Addr) (len cap : Nat) (a : List (List UInt8)) (w : World) (h : IsStrs w x len a) (hT : Tab w) :
    Calls Tryd.prog 4 #[.slice x len cap] w fun e w' => e = .returned (.bool true) ∧ Below w.heap.size w w' := by
  go_enter Tryd.func4, Tryd.ntmps4
  go_wp2_with fail
  refine (awake_any _ hT).mono ?_
  rintro e w1 ⟨rfl, hb1⟩
  have Hb1 := Lib.hid hb1
  clear hb1
  go_wp2_with fail
  refine (few_any _ _ _ _ _ (h.below Hb1.out)).mono ?_
  rintro e w2 ⟨y, n, c, rfl, hs, hb2⟩
  have Hs := Lib.hid hs
  have Hb2 := Lib.hid (bnext Hb1.out hb2)
  clear hs hb2
  go_wp2_with fail
  refine (Row_any _ _ _ _ _ Hs.out (hT.below Hb2.out)).mono ?_
  rintro e w3 ⟨rfl, hb3⟩
  have Hb3 := Lib.hid hb3
  clear hb3
  go_wp2_with fail
  refine (XRow_any _ _ _ _ _ (Hs.out.below Hb3.out) (Hs.out.length ▸ fewS_length a) (fewS_short a)).mono ?_
  rintro e w4 ⟨rfl, hb4⟩
  have Hb4 := Lib.hid (bnext (bnext Hb2.out Hb3.out) hb4)
  clear hb4
  go_wp2
  go_ret
  exact ⟨rfl, Hb4.out⟩
set_option maxRecDepth 100000 in
theorem lifted (os : Os) (started : os.Started) (H : Type) (enc : TypeId × Value → H) :
    ReturnsInHanded {} Tryd.checked os 4 .any (fun w args => (Rows.crcRowsSpec.pre enc Tryd.prog Tryd.f4 [] false w args ∧ laidMetH Tryd.prog laidT w) ∧ sizedMet enc Tryd.prog Tryd.f4 (OpenSpec.ofChange Rows.crcRowsSpec) false w args)
      (Rows.crcRowsSpec.post enc Tryd.prog Tryd.f4 false true false false) := by
  refine returnsInHanded_of_change_and (C := Tryd.checked) (X := fun w _ => laidMetH Tryd.prog laidT w) (fun _ _ _ hh h => h.of_heap hh) own started (by kernel_rfl) Tryd.func4
    (ChangeSpec.witness_shaped (enc := enc) (C := Tryd.checked) (os := os) (X := fun w _ => laidMetH Tryd.prog laidT w) false (World.doorLaid Tryd.prog 400 os) #[.slice none 0 0] 8 rfl (World.shaped_of_RefB (by kernel_rfl) (by kernel_rfl)) (by kernel_rfl) (by kernel_rfl) (by kernel_rfl) (door_met os _)) ?_
  intro W base args ds gs before hval0 hW _ _ hL _
  have hval : ∀ (j : Nat) t v, Tryd.f4.params[j]? = some t → args[j]? = some v → Value.okWide Tryd.prog W .any base t v := hval0
  have hW' := hW
  obtain ⟨p, q, hA0, hV, rfl, hfz, hnd⟩ := hW
  have hA : DataW.TrodAll enc Tryd.prog W 0 (fun _ => true) true Tryd.f4.params.toList args.toList ds p := hA0
  rw [Tryd.params4] at hA hval
  obtain ⟨v0, vs0, d0, ds0, p0, q0, hargs, rfl, rfl, h0, r0⟩ := trodAll_cons hA
  obtain ⟨rfl, rfl, rfl⟩ := trodAll_nil r0
  obtain rfl : args = #[v0] := by cases args; simp_all
  obtain ⟨x0, len0, cap0, a0, rfl, w0⟩ := opens_strs Tryd.underlying29 Tryd.underlying9 (by kernel_rfl) (hval 0 29 v0 rfl rfl) h0
  clear hA0 hval0
  refine (walk x0 len0 cap0 a0 W w0 (tab_of_laid hL)).mono fun e W' ⟨he, bel⟩ => ?_
  subst he
  exact ⟨_, rfl, law_post laidOut (by rw [Tryd.params4]; decide +kernel) rfl Tryd.underlying4 rfl hW' (fun _ => rfl) bel⟩
theorem over : Rows.crcRowsRow.holds Tryd.pinned (OpenSpec.ofChange Rows.crcRowsSpec) :=
  OpenClaim.holds_of_wide 4 Tryd.f4 rfl rfl rfl rfl rfl rfl rfl ⟨rfl, rfl, rfl, rfl, rfl⟩ rfl rfl rfl rfl rfl (by kernel_rfl) Tryd.func4 (by kernel_rfl)
    (of_decide_eq_true (by kernel_rfl)) (by unfold Func.isWrapper; first | (rw [if_pos (by decide +kernel)]; kernel_rfl) | (rw [if_neg (by decide +kernel)]; exact ⟨rfl, rfl⟩))
    (fun os started H enc _ => lifted os started H enc)
theorem proved : Rows.CrcRowsCardSaid :=
  Claim7.holds_tied_plain_at .later [] [.data] true Rows.crcRowsCard.stood.harness false over (fun _ h => by cases h) (by kernel_rfl) (fun _ h => by cases h) crcRows_row_tie rfl ⟨rfl, rfl⟩ (by kernel_rfl) rfl
    (fun f fn hf hfn => by
      obtain rfl : f = 4 := Option.some.inj ((show Tryd.prog.funcNamed "lockgate/lockgatelaw02.CrcRows" = some 4 by kernel_rfl).symm.trans hf) |>.symm
      obtain rfl : fn = Tryd.f4 := (Option.some.inj (Tryd.func4.symm.trans hfn)).symm
      exact ⟨by kernel_rfl, fun j t ht => by
        rw [Tryd.params4] at ht
        have hm : t ∈ [29] := by simpa using Array.mem_of_getElem? ht
        have hall : ([29].all fun u => !Tryd.prog.wantsStandIn u) = true := by kernel_rfl
        exact (show Tryd.prog.wantsStandIn t = false by simpa using List.all_eq_true.1 hall t hm)⟩)
    (by kernel_rfl)
end Go.Proofs.YtbniahmnjljgmaaDoor.crcRows
