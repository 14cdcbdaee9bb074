/- Of any that swap one sector from what lay there to something of their own just the first one is told OK, and its bytes lie there: DiskSwaps. -/
import Derived.Test.YtcahccjlompilaaRows
import Derived.Test.YtcahccjlompilaaLaw04
namespace Go.Proofs.Ytcahccjlompilaa.diskSwaps
open Go.RowKit Go.ChangeShapes Go.WideShapes Go.ChangeAt
open Go.ChangeMaps (open_string shut_string)

/-- What holds ahead of key k's try. -/
structure Tried (c : Int) (k : Nat) (s : DS) : Prop where
  lies : s.lies = [if k = 1 then zero512 else sec c]
  on : ∀ i : Nat, 1 ≤ i → i < k → s.keys i = 1
  off : ∀ i : Nat, k ≤ i → s.keys i = 0
  none : ∀ i, s.caches i = []
theorem Tried.start (c : Int) : Tried c 1 (DS.new (sectorsN 1)) := ⟨rfl, fun i h1 h2 => by omega, fun _ _ => rfl, fun _ => rfl⟩
theorem Tried.reg {c : Int} {k : Nat} {s : DS} (h : Tried c k s) (hk : 1 ≤ k) : regE s (k : Int) = 0 ∧ regS s (k : Int) = s.key (k : Int) 1 := by
  have h0 := h.off k (Nat.le_refl _)
  have h1 : ¬ ((k : Int) < 1) := by omega
  rw [regE, regS, if_neg h1, if_neg h1, h0]
  exact ⟨rfl, rfl⟩
theorem Tried.next {c x : Int} {k : Nat} {s : DS} (h : Tried c k s) (hk1 : 1 ≤ k) (hx : k = 1 → x = c) : Tried c (k + 1) (swapS (s.key (k : Int) 1) (k : Int) 0 zero512 (sec x)) ∧
    swapE (s.key (k : Int) 1) (k : Int) 0 zero512 = if k = 1 then 0 else 16 := by
  obtain ⟨S, hS⟩ : ∃ S, s.key (k : Int) 1 = S := ⟨_, rfl⟩
  have hno : ∀ i, S.caches i = [] := fun i => by rw [← hS]; exact h.none i
  have hb : lastB (S.caches (k : Int)) 0 = false := by rw [hno]; rfl
  have hl : S.lies = [if k = 1 then zero512 else sec c] := by rw [← hS]; exact h.lies
  have hk : ∀ i : Int, S.keys i = if i = (k : Int) then 1 else s.keys i := fun _ => by rw [← hS]; rfl
  have he : S.lies.getD 0 [] = if k = 1 then zero512 else sec c := by rw [hl]; rfl
  rw [hS]
  have on' : ∀ i : Nat, 1 ≤ i → i < k + 1 → S.keys i = 1 := fun i h1 h2 => by
    rw [hk]
    split
    · rfl
    · exact h.on i h1 (by omega)
  have off' : ∀ i : Nat, k + 1 ≤ i → S.keys i = 0 := fun i h1 => by
    rw [hk, if_neg (by omega)]
    exact h.off i (by omega)
  have hbf : ¬ (lastB (S.caches (k : Int)) 0 = true) := by rw [hb]; decide
  by_cases h0 : k = 1
  · have e1 : swapS S (k : Int) 0 zero512 (sec x) = S.lie 0 (sec x) := by rw [swapS, if_neg hbf, he, if_pos h0, if_pos rfl]
    have e2 : swapE S (k : Int) 0 zero512 = 0 := by rw [swapE, if_neg hbf, he, if_pos h0, if_pos rfl]
    rw [e1, e2, if_pos h0]
    refine ⟨⟨?_, on', off', hno⟩, rfl⟩
    show S.lies.set 0 (sec x) = _
    rw [hl, hx h0, if_neg (show ¬ (k + 1 = 1) by omega)]
    rfl
  · have e1 : swapS S (k : Int) 0 zero512 (sec x) = S := by rw [swapS, if_neg hbf, he, if_neg h0, if_neg (sec_zero c)]
    have e2 : swapE S (k : Int) 0 zero512 = 16 := by rw [swapE, if_neg hbf, he, if_neg h0, if_neg (sec_zero c)]
    rw [e1, e2, if_neg h0]
    exact ⟨⟨by rw [hl, if_neg h0, if_neg (show ¬ (k + 1 = 1) by omega)], on', off', hno⟩, rfl⟩
theorem Tried.end {c : Int} {k : Nat} {s : DS} (h : Tried c k s) (hk : 1 < k) : lieI s 0 = sec c := by
  have hl : s.lies = [sec c] := by rw [h.lies, if_neg (by omega)]
  have e : thereB s 0 = true := by simp [thereB, hl]
  rw [lieI, if_pos e, hl]
  rfl
set_option maxRecDepth 100000 in
set_option maxHeartbeats 1000000 in
theorem walk (a0 : Int) (x1 : Option Addr) (len1 cap1 : Nat) (a1 : List Int) (w : World) (w0 : (Lit.int .i64 a0).wf = true) (w1 : IsInts .u8 w x1 len1 a1) :
    Calls Try.prog 6 #[.int .i64 a0, .slice x1 len1 cap1] w fun e w' => e = .returned (.bool true) ∧ Below w.heap.size w w' := by
  have hn2 := bounds_i64 w0
  clear w0
  obtain ⟨hl1, hm1, hw1, hc1⟩ := w1
  have Hl1 := Lib.hid hl1
  have Hw1 := Lib.hid hw1
  have Hc1 := Lib.hid hc1
  have hm1' : len1 ≤ 9223372036854775807 := hm1
  clear hl1 hm1 hw1 hc1
  have hcase : (a0.tmod 8 < 0 ∧ ∃ k : Nat, Hid (wrap64 (-a0.tmod 8) = (k : Int)) ∧ (k : Int) < 8) ∨ (0 ≤ a0.tmod 8 ∧ ∃ k : Nat, Hid (a0.tmod 8 = (k : Int)) ∧ (k : Int) < 8) := by
    rcases Int.lt_or_le (a0.tmod 8) 0 with h | h
    · exact .inl ⟨h, rest_neg (by omega) (by omega) h⟩
    · exact .inr ⟨h, rest_pos (by omega) h⟩
  obtain ⟨c, Hc⟩ : ∃ c, Hid (c = if 0 < len1 then a1.getD 0 0 else 1) := ⟨_, Lib.hid rfl⟩
  go_enter Try.func6, Try.ntmps6
  go_wp2_with fail
  refine (awake_any _).mono ?_
  rintro e w2 ⟨rfl, hb2⟩
  have Hb2 := Lib.hid hb2
  clear hb2
  go_wp2_with fail
  refine (New_own w 1 (by decide) Hb2.out).mono ?_
  rintro e w3 ⟨b, rfl, h3, _⟩
  have H3 := Lib.hid h3
  clear h3
  rcases hcase with ⟨hneg, n, Hn, hn⟩ | ⟨hpos, n, Hn, hn⟩
  all_goals
    go_wp2_with fail
    refine (Peek_own H3.out 0).mono ?_
    rw [show lieI (DS.new (sectorsN 1)) 0 = zero512 from rfl]
    rintro e w4 ⟨rfl, rfl⟩
    go_wp2_with fail
    have hn7 : n < 8 := by omega
    rw [Hn.out, IntWalk.wrap64_in ((n : Int) + 1) ⟨by omega, by omega⟩]
    have H0 := Lib.hid (Tried.start c)
    rw [show Value.int .i64 1 = Value.int .i64 ((1 : Nat) : Int) from rfl]
    go_loopw [9] (fun v wr => ∃ (k : Nat) (s : DS) (m : Nat), v = .int .i64 (k : Int) ∧ 1 ≤ k ∧ k ≤ n + 2 ∧ m < k ∧ Hid (Tried c k s) ∧ Hid (Own w wr b m s (fun _ => False))) (fun v _ => n + 2 - (intOf v).toNat)
    case atStart => exact ⟨1, _, 0, rfl, Nat.le_refl _, by omega, by omega, H0, H3⟩
    case round =>
      obtain ⟨k, s, m, rfl, hk1, hk, hmk, Ht, Ho⟩ := hrel
      by_cases hlt : k ≤ n + 1
      · have hreg := Ht.out.reg hk1
        obtain ⟨hr1, hr2⟩ := hreg
        have Hr1 := Lib.hid hr1
        have Hr2 := Lib.hid hr2
        clear hr1 hr2
        have hkw : (Lit.int .i64 (k : Int)).wf = true := wf_small (by omega) (by omega)
        go_wp2_with fail
        refine (Register_own Ho.out hkw (by omega)).mono ?_
        rw [Hr1.out, Hr2.out]
        rintro e w5 ⟨rfl, h5, _⟩
        have H5 := Lib.hid h5
        clear h5
        have hkon : (s.key (k : Int) 1).keys (k : Int) = 1 := if_pos rfl
        have Hkon := Lib.hid hkon
        have hlen : 0 < (s.key (k : Int) 1).lies.length := H5.out.fine.some
        have Hlen := Lib.hid hlen
        clear hkon hlen
        by_cases hin : k ≤ len1
        · obtain ⟨j, hj⟩ : ∃ j, k = j + 1 := ⟨k - 1, by omega⟩
          obtain ⟨xb, off, rfl, hcell⟩ := Hc1.out (by omega)
          have hcv := hcell j (by omega)
          have hc5 : w5.cell? ⟨xb, off + (k - 1), none⟩ = some (.int .u8 (a1.getD j 0)) := by
            rw [show k - 1 = j by omega]
            exact (H5.out.below.cell (p := ⟨xb, off + j, none⟩) (lt_of_cell hcv)).trans hcv
          obtain ⟨x, Hxe⟩ : ∃ x, Hid (a1.getD j 0 = x) := ⟨_, Lib.hid rfl⟩
          have Hx : Hid (k = 1 → x = c) := Lib.hid (fun h0 => by
            have : j = 0 := by omega
            subst this
            rw [Hc.out, if_pos (by omega)]; exact Hxe.out.symm)
          rw [Hxe.out] at hc5
          clear hcell hcv hj
          go_wp2_with fail
          refine (sector_any x _).mono ?_
          rintro e w6 ⟨rfl, hb6⟩
          have H6 := Lib.hid (H5.out.later hb6)
          clear hb6
          go_wp2_with fail
          have hnx := Ht.out.next hk1 Hx.out
          obtain ⟨hn1, hn2'⟩ := hnx
          have Hn1 := Lib.hid hn1
          have Hn2 := Lib.hid hn2'
          clear hn1 hn2'
          refine (Swap_own (i := 0) H6.out hkw Hlen.out zero512_length (sec_length _) Hkon.out).mono ?_
          rw [Hn2.out]
          rintro e w7 ⟨rfl, h7, _⟩
          have H7 := Lib.hid h7
          clear h7
          by_cases hk11 : k = 1
          · subst hk11
            rw [if_pos rfl]
            go_wp2
            go_roundw
            case rel => exact ⟨2, _, _, rfl, by omega, by omega, by omega, Hn1, H7⟩
            case measure => simp [intOf]
          · have hk12 : ((k : Int) == 1) = false := beq_no (by omega)
            rw [if_neg hk11]
            clear hk11
            go_wp2
            go_roundw
            case rel => exact ⟨k + 1, _, _, by go_num, by omega, by omega, by omega, Hn1, H7⟩
            case measure => simp [intOf]; omega
        · have Hx : Hid (k = 1 → (k : Int) = c) := Lib.hid (fun h0 => by
            subst h0
            rw [Hc.out, if_neg (by omega)]; rfl)
          go_wp2_with fail
          refine (sector_any (k : Int) _).mono ?_
          rintro e w6 ⟨rfl, hb6⟩
          have H6 := Lib.hid (H5.out.later hb6)
          clear hb6
          go_wp2_with fail
          have hnx := Ht.out.next hk1 Hx.out
          obtain ⟨hn1, hn2'⟩ := hnx
          have Hn1 := Lib.hid hn1
          have Hn2 := Lib.hid hn2'
          clear hn1 hn2'
          refine (Swap_own (i := 0) H6.out hkw Hlen.out zero512_length (sec_length _) Hkon.out).mono ?_
          rw [Hn2.out]
          rintro e w7 ⟨rfl, h7, _⟩
          have H7 := Lib.hid h7
          clear h7
          by_cases hk11 : k = 1
          · subst hk11
            rw [if_pos rfl]
            go_wp2
            go_roundw
            case rel => exact ⟨2, _, _, rfl, by omega, by omega, by omega, Hn1, H7⟩
            case measure => simp [intOf]
          · have hk12 : ((k : Int) == 1) = false := beq_no (by omega)
            rw [if_neg hk11]
            clear hk11
            go_wp2
            go_roundw
            case rel => exact ⟨k + 1, _, _, by go_num, by omega, by omega, by omega, Hn1, H7⟩
            case measure => simp [intOf]; omega
      · obtain rfl : k = n + 2 := by omega
        have Hend := Lib.hid (Ht.out.end (by omega))
        by_cases hl0 : 0 < len1
        · obtain ⟨xb, off, rfl, hcell⟩ := Hc1.out hl0
          have hcv : w.cell? ⟨xb, off, none⟩ = some (.int .u8 (a1.getD 0 0)) := hcell 0 hl0
          have hc5 : wr.cell? ⟨xb, off, none⟩ = some (.int .u8 c) := by
            rw [Hc.out, if_pos hl0]
            exact (Ho.out.below.cell (p := ⟨xb, off, none⟩) (lt_of_cell hcv)).trans hcv
          clear hcell hcv
          go_wp2_with fail
          refine (Peek_own Ho.out 0).mono ?_
          rw [Hend.out]
          rintro e w5 ⟨rfl, rfl⟩
          go_wp2_with fail
          refine (sector_any c _).mono ?_
          rintro e w6 ⟨rfl, hb6⟩
          have H6 := Lib.hid (Ho.out.later hb6)
          clear hb6
          go_wp2
          go_ret
          exact ⟨rfl, H6.out.below⟩
        · have hc1 : c = 1 := by rw [Hc.out, if_neg hl0]
          subst hc1
          go_wp2_with fail
          refine (Peek_own Ho.out 0).mono ?_
          rw [Hend.out]
          rintro e w5 ⟨rfl, rfl⟩
          go_wp2_with fail
          refine (sector_any 1 _).mono ?_
          rintro e w6 ⟨rfl, hb6⟩
          have H6 := Lib.hid (Ho.out.later hb6)
          clear hb6
          go_wp2
          go_ret
          exact ⟨rfl, H6.out.below⟩
theorem own : ownKnob Try.prog.godebug = none := by kernel_rfl
theorem laidOut : laidOutB Try.prog = true := by kernel_rfl
set_option maxRecDepth 100000 in
theorem lifted (os : Os) (started : os.Started) (H : Type) (enc : TypeId × Value → H) :
    ReturnsInHanded {} Try.checked os 6 .any (Rows.diskSwapsSpec.pre6 enc Try.prog Try.f6 Rows.diskSwapsRow.domain false) (Rows.diskSwapsSpec.post enc Try.prog Try.f6 false true false false) := by
  refine returnsInHanded_of_change (C := Try.checked) own started (by kernel_rfl) Try.func6
    (ChangeSpec.witness6 (enc := enc) (C := Try.checked) false ⟨#[], #[.int .i64 0, .slice none 0 0], []⟩ 8 (by kernel_rfl) (by kernel_rfl) (by kernel_rfl) (by kernel_rfl)) ?_
  intro W base args ds gs before hval0 hW hcnd _
  have hval : ∀ (j : Nat) t v, Try.f6.params[j]? = some t → args[j]? = some v → Value.okWide Try.prog W .any base t v := hval0
  have hW' := hW
  obtain ⟨p, q, hA0, hV, rfl, hfz, hnd⟩ := hW
  have hA : DataW.TrodAll enc Try.prog W 0 (fun _ => true) true Try.f6.params.toList args.toList ds p := hA0
  rw [Try.params6] at hA hval
  obtain ⟨v0, vs0, d0, ds0, p0, q0, hargs, rfl, rfl, h0, r0⟩ := trodAll_cons hA
  obtain ⟨v1, vs1, d1, ds1, p1, q1, rfl, rfl, rfl, h1, r1⟩ := trodAll_cons r0
  obtain ⟨rfl, rfl, rfl⟩ := trodAll_nil r1
  obtain rfl : args = #[v0, v1] := by cases args; simp_all
  obtain ⟨a0, rfl, rfl, rfl, w0⟩ := open_int Try.underlying3 (hval 0 3 v0 rfl rfl) h0
  obtain ⟨x1, len1, cap1, a1, rfl, w1⟩ := opens_ints Try.underlying60 Try.underlying5 (by kernel_rfl) (hval 1 60 v1 rfl rfl) h1
  clear hA0 hval0
  refine (walk a0 x1 len1 cap1 a1 W w0 w1).mono fun e W' ⟨he, bel⟩ => ?_
  subst he
  exact ⟨_, rfl, law_post laidOut (by rw [Try.params6]; decide +kernel) rfl Try.underlying4 rfl hW' (fun _ => rfl) bel⟩
theorem over : Rows.diskSwapsRow.holds Try.pinned (OpenSpec.ofChange Rows.diskSwapsSpec) :=
  OpenClaim.holds_of_wide 6 Try.f6 rfl rfl rfl rfl rfl rfl rfl ⟨rfl, rfl, rfl, rfl, rfl⟩ rfl rfl rfl rfl rfl (by kernel_rfl) Try.func6 (by kernel_rfl)
    (of_decide_eq_true (by kernel_rfl)) (by unfold Func.isWrapper; first | (rw [if_pos (by decide +kernel)]; kernel_rfl) | (rw [if_neg (by decide +kernel)]; exact ⟨rfl, rfl⟩))
    (fun os started H enc _ => lifted os started H enc)
theorem proved : Rows.DiskSwapsSaid := over
end Go.Proofs.Ytcahccjlompilaa.diskSwaps
