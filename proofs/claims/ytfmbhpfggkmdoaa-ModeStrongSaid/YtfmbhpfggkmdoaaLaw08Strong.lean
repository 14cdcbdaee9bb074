/- ModeStrong: the strongest mode of claims covers each one, is the mode of one, or None; without a node it is not stronger; what it fits, each one fits: for any claims (twelve of them are asked of), any node and any mode. -/
import Derived.Test.YtfmbhpfggkmdoaaRows
import Derived.Test.YtfmbhpfggkmdoaaOwn8
import Derived.Deep.DeepCutAuto
namespace Go.Proofs.Ytfmbhpfggkmdoaa.modeStrong
open Go.RowKit Go.ChangeShapes Go.WideShapes Go.ChangeAt
open Go.ChangeMaps (open_string shut_string)

theorem tmod_bd (a : Int) {n : Int} (h : 0 < n) : -n < a.tmod n ∧ a.tmod n < n := by
  have h2 := Int.tmod_lt_of_pos a h
  have h3 := Int.lt_tmod_of_pos a h
  omega
theorem str_three (l : List Cl) (but : Int) : strM l but = 0 ∨ strM l but = 1 ∨ strM l but = 2 := by
  unfold strM strP
  split
  · exact .inr (.inr rfl)
  · split
    · exact .inr (.inl rfl)
    · exact .inl rfl
theorem str_cov {l : List Cl} {c : Cl} {but : Int} (hc : c ∈ l) (hm : modeB c.2 = true) (hn : c.1 ≠ but) : covB (strM l but) c.2 = true := by
  have hso : ∀ m, c.2 = m → soM l but m = true := fun m e => by
    simp only [soM, List.any_eq_true]
    exact ⟨c, hc, by simp [soC, hn, e]⟩
  rcases mode_three hm with h | h | h
  · rw [h]
    rcases str_three l but with e | e | e <;> rw [e] <;> rfl
  · rw [h]
    have := hso 1 h
    unfold strM strP
    rw [this]
    cases soM l but 2 <;> rfl
  · rw [h]
    have := hso 2 h
    unfold strM strP
    rw [this]
    rfl
theorem str_fit {l : List Cl} {c : Cl} {but x : Int} (hc : c ∈ l) (hm : modeB c.2 = true) (hn : c.1 ≠ but) : fitB (strM l but) x = true → fitB c.2 x = true := by
  have h1 := str_cov hc hm hn
  have hs := str_three l but
  generalize strM l but = a at h1 hs
  intro hf
  have hx := mode_three (fit_mode hf).2
  rcases mode_three hm with h | h | h <;> rw [h] at h1 ⊢ <;> rcases hs with rfl | rfl | rfl <;> rcases hx with rfl | rfl | rfl <;> revert h1 hf <;> decide
theorem str_some (l : List Cl) (but : Int) : (strM l but == 0 || l.any fun c => c.2 == strM l but) = true := by
  have h2 : ∀ m, soM l but m = true → (l.any fun c => c.2 == m) = true := fun m h => by
    simp only [soM, List.any_eq_true] at h ⊢
    obtain ⟨c, hc, h⟩ := h
    simp only [soC, Bool.and_eq_true] at h
    exact ⟨c, hc, h.2⟩
  unfold strM strP
  cases e2 : soM l but 2 with
  | true => simp only [if_true]; rw [h2 2 e2]; rfl
  | false =>
    cases e1 : soM l but 1 with
    | true =>
      simp only [if_true, Bool.false_eq_true, if_false]
      rw [h2 1 e1]; rfl
    | false => rfl
theorem str_less {l : List Cl} {but g : Int} (h : ∀ c ∈ l, c.1 ≠ g) : covB (strM l g) (strM l but) = true := by
  have hso : ∀ m, soM l but m = true → soM l g m = true := fun m h1 => by
    simp only [soM, List.any_eq_true] at h1 ⊢
    obtain ⟨c, hc, h2⟩ := h1
    simp only [soC, Bool.and_eq_true] at h2
    exact ⟨c, hc, by simp [soC, h c hc, h2.2]⟩
  unfold strM strP
  cases e2 : soM l but 2 with
  | true => rw [hso 2 e2]; rfl
  | false =>
    cases e1 : soM l but 1 with
    | true =>
      rw [hso 1 e1]
      cases soM l g 2 <;> rfl
    | false => cases soM l g 2 <;> cases soM l g 1 <;> rfl
theorem any_take {l : List Cl} {i : Nat} {c : Cl} (h : l[i]? = some c) (p : Cl → Bool) : (l.take (i + 1)).any p = ((l.take i).any p || p c) := by
  obtain ⟨hk, e⟩ := List.getElem?_eq_some_iff.1 h
  rw [List.take_succ_eq_append_getElem hk, e, List.any_append]
  simp
set_option maxRecDepth 100000 in
set_option maxHeartbeats 4000000 in
theorem walk (A : Option Addr) (n cp : Nat) (l : List Cl) (but m0 : Int) (w : World) (hl : IsC w A n l) (hcp : n ≤ cp) (hA : A = none → n = 0) (_ : (Lit.int .i64 but).wf = true) (_ : (Lit.int .i64 m0).wf = true) :
    Calls Try.prog 7 #[.slice A n cp, .int .i64 but, .int .i64 m0] w fun e w' => e = .returned (.bool true) ∧ Below w.heap.size w w' := by
  have Hl := Lib.hid hl
  have HA := Lib.hid hA
  clear hl hA
  obtain ⟨a1, a2⟩ := tmod_bd m0 (n := 3) (by decide)
  obtain ⟨l2, Hl2⟩ : ∃ x, Hid (l.take 12 = x) := ⟨_, Lib.hid rfl⟩
  obtain ⟨t, Ht⟩ : ∃ x, Hid (strM l2 (-1000000) = x) := ⟨_, Lib.hid rfl⟩
  obtain ⟨r, Hr⟩ : ∃ x, Hid (strM l2 but = x) := ⟨_, Lib.hid rfl⟩
  go_enter Try.func7, Try.ntmps7
  go_wp2_with fail
  refine (awake_any _).mono ?_
  rintro e w1 ⟨rfl, hb⟩
  have B1 := Lib.hid hb
  clear hb
  go_wp2_with fail
  refine (few_any _ A n cp l (Hl.out.below B1.out) hcp HA.out).mono ?_
  rw [Hl2.out]
  rintro e w1' ⟨m, c', rfl, hm, hc, hmc, rfl⟩
  have C1 := Lib.hid hc
  clear hc
  go_wp2_with fail
  refine (Strongest_any _ A m c' l2 C1.out (-1000000)).mono ?_
  rw [Ht.out]
  rintro e w2 ⟨rfl, hb⟩
  have B2 := Lib.hid (bnext B1.out hb)
  have C2 := Lib.hid (C1.out.below hb)
  clear hb
  go_wp2_with fail
  refine (Strongest_any _ A m c' l2 C2.out but).mono ?_
  rw [Hr.out]
  rintro e w3 ⟨rfl, hb⟩
  have B3 := Lib.hid (bnext B2.out hb)
  have C3 := Lib.hid (C2.out.below hb)
  clear hb
  obtain ⟨x, Ex⟩ : ∃ x, (m0.tmod 3 + 3) % 3 = x := ⟨_, rfl⟩
  have Fx := Lib.hid Ex
  clear Ex
  go_upto_region 6 with (fail)
  rw [Fx.out]
  clear a1 a2
  go_cut [11, 12] (fun s11 s12 wx => s11 = .int .i64 x ∧ s12 = .bool (t == 0) ∧ w3 = wx)
  case first =>
    go_wp2
    go_meet
    exact ⟨rfl, rfl, rfl⟩
  case rest =>
    obtain ⟨rfl, rfl, hwc⟩ := hcut
    subst hwc
    go_wp2
    go_loopw [12, 13] (fun sm s wr => ∃ i : Nat, s = .int .i64 (i : Int) ∧ i ≤ m ∧ sm = .bool (t == 0 || (l2.take i).any fun c => c.2 == t) ∧ Hid (∀ c ∈ l2.take i, c.1 ≠ -1000000) ∧ Hid (Below w3.heap.size w3 wr)) (fun _ s _ => m - (intOf s).toNat)
    case atStart => exact ⟨0, rfl, Nat.zero_le _, by simp, Lib.hid (by simp), Lib.hid (Below.refl _ _)⟩
    case round =>
      obtain ⟨i, rfl, hi, rfl, HN, HB⟩ := hrel
      obtain ⟨sm, Hsm⟩ : ∃ x, Hid ((t == 0 || (l2.take i).any fun c => c.2 == t) = x) := ⟨_, Lib.hid rfl⟩
      rw [Hsm.out]
      by_cases hlt : i < m
      · have hlt' : (i : Int) < (m : Int) := by omega
        obtain ⟨c, hc⟩ : ∃ c, l2[i]? = some c := ⟨_, List.getElem?_eq_getElem (by rw [C3.out.length]; exact hlt)⟩
        obtain ⟨g, off, rfl, hg, hcs⟩ := (C3.out.below HB.out).cells (by omega)
        obtain ⟨c0, c1⟩ := hcs i c hc
        have Hcm : Hid (c ∈ l2) := Lib.hid (List.mem_of_getElem? hc)
        have Hany := Lib.hid (any_take hc fun c => c.2 == t)
        have Hmem : Hid (c.1 ≠ -1000000 → ∀ c ∈ l2.take (i + 1), c.1 ≠ -1000000) := Lib.hid (fun h1 y hy => by
          obtain ⟨hk, e⟩ := List.getElem?_eq_some_iff.1 hc
          rw [List.take_succ_eq_append_getElem hk, e, List.mem_append, List.mem_singleton] at hy
          rcases hy with hy | rfl
          · exact HN.out y hy
          · exact h1)
        clear hcs hc
        have hgr := hg
        obtain ⟨q, Hq⟩ : ∃ x, Hid (modeB c.2 = x) := ⟨_, Lib.hid rfl⟩
        go_wp2_with fail
        refine (Is_any _ c.2).mono ?_
        rw [Hq.out]
        rintro e w4 ⟨rfl, hb⟩
        have B4 := Lib.hid (bnext HB.out hb)
        have d0 : w4.cell? ⟨g, off + i * 2, none⟩ = some (.int .i64 c.1) := (hb.cell (p := ⟨g, off + i * 2, none⟩) hg).trans c0
        have d1 : w4.cell? ⟨g, off + i * 2 + 1, none⟩ = some (.int .i64 c.2) := (hb.cell (p := ⟨g, off + i * 2 + 1, none⟩) hg).trans c1
        have hg4 : g < w4.heap.size := Nat.lt_of_lt_of_le hg hb.size
        clear hb c0 c1
        cases q
        · go_wp2
          go_ret
          exact ⟨rfl, bnext B3.out B4.out⟩
        · by_cases hn : c.1 = -1000000
          · have hn' := beq_yes hn
            go_wp2
            go_ret
            exact ⟨rfl, bnext B3.out B4.out⟩
          · have hn' := beq_no hn
            have Hcov : Hid (covB t c.2 = true) := Lib.hid (by rw [← Ht.out]; exact str_cov Hcm.out Hq.out hn)
            have Hfit : Hid (fitB t x = true → fitB c.2 x = true) := Lib.hid (by rw [← Ht.out]; exact str_fit Hcm.out Hq.out hn)
            have HN2 := Lib.hid (Hmem.out hn)
            clear hn
            obtain ⟨f, Hf⟩ : ∃ x', Hid (fitB t x = x') := ⟨_, Lib.hid rfl⟩
            go_wp2_with fail
            refine (Covers_any _ t c.2).mono ?_
            rw [Hcov.out]
            rintro e w5 ⟨rfl, hb⟩
            have B5 := Lib.hid (bnext B4.out hb)
            have e1 : w5.cell? ⟨g, off + i * 2 + 1, none⟩ = some (.int .i64 c.2) := (hb.cell (p := ⟨g, off + i * 2 + 1, none⟩) hg4).trans d1
            have hg5 : g < w5.heap.size := Nat.lt_of_lt_of_le hg4 hb.size
            clear hb d0 d1
            go_wp2_with fail
            refine (Fit_any _ t x).mono ?_
            rw [Hf.out]
            rintro e w6 ⟨rfl, hb⟩
            have B6 := Lib.hid (bnext B5.out hb)
            have f1 : w6.cell? ⟨g, off + i * 2 + 1, none⟩ = some (.int .i64 c.2) := (hb.cell (p := ⟨g, off + i * 2 + 1, none⟩) hg5).trans e1
            have hg6 : g < w6.heap.size := Nat.lt_of_lt_of_le hg5 hb.size
            clear hb e1
            cases f
            · cases sm
              · go_wp2
                go_roundw
                case rel => exact ⟨i + 1, by go_num, by omega, by rw [Hany.out, ← Bool.or_assoc, Hsm.out]; rfl, HN2, B6⟩
                case measure => simp [intOf]; omega
              · go_wp2
                go_roundw
                case rel => exact ⟨i + 1, by go_num, by omega, by rw [Hany.out, ← Bool.or_assoc, Hsm.out]; rfl, HN2, B6⟩
                case measure => simp [intOf]; omega
            · have Hf2 := Lib.hid (Hfit.out Hf.out)
              go_wp2_with fail
              refine (Fit_any _ c.2 x).mono ?_
              rw [Hf2.out]
              rintro e w7 ⟨rfl, hb⟩
              have B7 := Lib.hid (bnext B6.out hb)
              have g1 : w7.cell? ⟨g, off + i * 2 + 1, none⟩ = some (.int .i64 c.2) := (hb.cell (p := ⟨g, off + i * 2 + 1, none⟩) hg6).trans f1
              clear hb f1
              cases sm
              · go_wp2
                go_roundw
                case rel => exact ⟨i + 1, by go_num, by omega, by rw [Hany.out, ← Bool.or_assoc, Hsm.out]; rfl, HN2, B7⟩
                case measure => simp [intOf]; omega
              · go_wp2
                go_roundw
                case rel => exact ⟨i + 1, by go_num, by omega, by rw [Hany.out, ← Bool.or_assoc, Hsm.out]; rfl, HN2, B7⟩
                case measure => simp [intOf]; omega
      · obtain rfl : i = m := by omega
        rw [List.take_of_length_le (by rw [C3.out.length]; omega)] at HN Hsm
        have Hs1 : Hid (sm = true) := Lib.hid (by rw [← Hsm.out, ← Ht.out]; exact str_some l2 _)
        have Hcv : Hid (covB t r = true) := Lib.hid (by rw [← Ht.out, ← Hr.out]; exact str_less HN.out)
        rw [Hs1.out]
        go_wp2_with fail
        refine (Covers_any _ t r).mono ?_
        rw [Hcv.out]
        rintro e w4 ⟨rfl, hb⟩
        have B4 := Lib.hid (bnext B3.out (bnext HB.out hb))
        clear hb
        go_wp2
        go_ret
        exact ⟨rfl, B4.out⟩
theorem own : ownKnob Try.prog.godebug = none := by kernel_rfl
theorem laidOut : laidOutB Try.prog = true := by kernel_rfl
set_option maxRecDepth 100000 in
theorem lifted (os : Os) (started : os.Started) (H : Type) (enc : TypeId × Value → H) :
    ReturnsInHanded {} Try.checked os 7 .any (Rows.modeStrongSpec.pre6 enc Try.prog Try.f7 Rows.modeStrongRow.domain false) (Rows.modeStrongSpec.post enc Try.prog Try.f7 false true false false) := by
  refine returnsInHanded_of_change (C := Try.checked) own started (by kernel_rfl) Try.func7
    (ChangeSpec.witness6 (enc := enc) (C := Try.checked) false ⟨#[], #[.slice none 0 0, .int .i64 0, .int .i64 0], []⟩ 8 (by kernel_rfl) (by kernel_rfl) (by kernel_rfl) (by kernel_rfl)) ?_
  intro W base args ds gs before hval0 hW hcnd _
  have hval : ∀ (j : Nat) t v, Try.f7.params[j]? = some t → args[j]? = some v → Value.okWide Try.prog W .any base t v := hval0
  have hW' := hW
  obtain ⟨p, q, hA0, hV, rfl, hfz, hnd⟩ := hW
  have hA : DataW.TrodAll enc Try.prog W 0 (fun _ => true) true Try.f7.params.toList args.toList ds p := hA0
  rw [Try.params7] at hA hval
  obtain ⟨v0, vs0, d0, ds0, p0, q0, hargs, rfl, rfl, h0, r0⟩ := trodAll_cons hA
  obtain ⟨v1, vs1, d1, ds1, p1, q1, rfl, rfl, rfl, h1, r1⟩ := trodAll_cons r0
  obtain ⟨v2, vs2, d2, ds2, p2, q2, rfl, rfl, rfl, h2, r2⟩ := trodAll_cons r1
  obtain ⟨rfl, rfl, rfl⟩ := trodAll_nil r2
  obtain rfl : args = #[v0, v1, v2] := by cases args; simp_all
  obtain ⟨x0, len0, cap0, a0, rfl, w0, y0, z0⟩ := opens_claims (hval 0 28 v0 rfl rfl) h0
  obtain ⟨a1, rfl, rfl, rfl, w1⟩ := open_int Try.underlying3 (hval 1 3 v1 rfl rfl) h1
  obtain ⟨a2, rfl, rfl, rfl, w2⟩ := open_int Try.underlying3 (hval 2 3 v2 rfl rfl) h2
  clear hA0 hval0
  refine (walk x0 len0 cap0 a0 a1 a2 W w0 y0 z0 w1 w2).mono fun e W' ⟨he, bel⟩ => ?_
  subst he
  exact ⟨_, rfl, law_post laidOut (by rw [Try.params7]; decide +kernel) rfl Try.underlying4 rfl hW' (fun _ => rfl) bel⟩
theorem over : Rows.modeStrongRow.holds Try.pinned (OpenSpec.ofChange Rows.modeStrongSpec) :=
  OpenClaim.holds_of_wide 7 Try.f7 rfl rfl rfl rfl rfl rfl rfl ⟨rfl, rfl, rfl, rfl, rfl⟩ rfl rfl rfl rfl rfl (by kernel_rfl) Try.func7 (by kernel_rfl)
    (of_decide_eq_true (by kernel_rfl)) (by unfold Func.isWrapper; first | (rw [if_pos (by decide +kernel)]; kernel_rfl) | (rw [if_neg (by decide +kernel)]; exact ⟨rfl, rfl⟩))
    (fun os started H enc _ => lifted os started H enc)
theorem proved : Rows.ModeStrongSaid := over
end Go.Proofs.Ytfmbhpfggkmdoaa.modeStrong
