/- ModeSafe: claims that are safe have one Alone at most, and then nobody else has anything; without one of them they are safe, too; what fits the strongest one of the others may be put in: for any claims (twelve of them are asked of) and one more. -/
import Derived.Test.YtfmbhpfggkmdoaaRows
import Derived.Test.YtfmbhpfggkmdoaaOwn8
import Derived.Test.YtfmbhpfggkmdoaaCRow8
import Derived.Deep.DeepCutAuto
namespace Go.Proofs.Ytfmbhpfggkmdoaa.modeSafe
open Go.RowKit Go.ChangeShapes Go.WideShapes Go.ChangeAt
open Go.ChangeMaps (open_string shut_string)

theorem str_three (l : List Cl) (but : Int) : strM l but = 0 ∨ strM l but = 1 ∨ strM l but = 2 := by
  unfold strM strP
  split
  · exact .inr (.inr rfl)
  · split
    · exact .inr (.inl rfl)
    · exact .inl rfl
theorem str_cov {l : List Cl} {c : Cl} {but : Int} (hc : c ∈ l) (hm : modeB c.2 = true) (hn : c.1 ≠ but) : covB (strM l but) c.2 = true := by
  have hso : ∀ m, c.2 = m → soM l but m = true := fun m e => by
    simp only [soM, List.any_eq_true]
    exact ⟨c, hc, by simp [soC, hn, e]⟩
  rcases mode_three hm with h | h | h
  · rw [h]
    rcases str_three l but with e | e | e <;> rw [e] <;> rfl
  · rw [h]
    have := hso 1 h
    unfold strM strP
    rw [this]
    cases soM l but 2 <;> rfl
  · rw [h]
    have := hso 2 h
    unfold strM strP
    rw [this]
    rfl
theorem str_fit {l : List Cl} {c : Cl} {but x : Int} (hc : c ∈ l) (hm : modeB c.2 = true) (hn : c.1 ≠ but) : fitB (strM l but) x = true → fitB c.2 x = true := by
  have h1 := str_cov hc hm hn
  have hs := str_three l but
  generalize strM l but = a at h1 hs
  intro hf
  have hx := mode_three (fit_mode hf).2
  rcases mode_three hm with h | h | h <;> rw [h] at h1 ⊢ <;> rcases hs with rfl | rfl | rfl <;> rcases hx with rfl | rfl | rfl <;> revert h1 hf <;> decide
theorem str_some (l : List Cl) (but : Int) : (strM l but == 0 || l.any fun c => c.2 == strM l but) = true := by
  have h2 : ∀ m, soM l but m = true → (l.any fun c => c.2 == m) = true := fun m h => by
    simp only [soM, List.any_eq_true] at h ⊢
    obtain ⟨c, hc, h⟩ := h
    simp only [soC, Bool.and_eq_true] at h
    exact ⟨c, hc, h.2⟩
  unfold strM strP
  cases e2 : soM l but 2 with
  | true => simp only [if_true]; rw [h2 2 e2]; rfl
  | false =>
    cases e1 : soM l but 1 with
    | true =>
      simp only [if_true, Bool.false_eq_true, if_false]
      rw [h2 1 e1]; rfl
    | false => rfl
def cnt2 (l : List Cl) : Nat := (l.filter fun c => c.2 == 2).length
def cntS (l : List Cl) : Nat := (l.filter fun c => c.2 != 0).length
theorem cnt2_next {l : List Cl} {k : Nat} {c : Cl} (h : l[k]? = some c) : cnt2 (l.take (k + 1)) = cnt2 (l.take k) + (if c.2 = 2 then 1 else 0) := by
  obtain ⟨hk, e⟩ := List.getElem?_eq_some_iff.1 h
  unfold cnt2
  rw [List.take_succ_eq_append_getElem hk, e, List.filter_append, List.length_append]
  congr 1
  by_cases hz : c.2 = 2 <;> simp [hz]
theorem cntS_next {l : List Cl} {k : Nat} {c : Cl} (h : l[k]? = some c) : cntS (l.take (k + 1)) = cntS (l.take k) + (if c.2 = 0 then 0 else 1) := by
  obtain ⟨hk, e⟩ := List.getElem?_eq_some_iff.1 h
  unfold cntS
  rw [List.take_succ_eq_append_getElem hk, e, List.filter_append, List.length_append]
  congr 1
  by_cases hz : c.2 = 0 <;> simp [hz]
theorem cnt2_le (l : List Cl) : cnt2 l ≤ l.length := List.length_filter_le _ _
theorem cntS_le (l : List Cl) : cntS l ≤ l.length := List.length_filter_le _ _
theorem filter_none {l : List Cl} {p : Cl → Bool} (h : ∀ a ∈ l, p a = false) : (l.filter p).length = 0 := by
  rw [List.filter_eq_nil_iff.2 (fun a ha => by rw [h a ha]; simp)]
  rfl
theorem safe_counts : ∀ (l : List Cl), SafeP l → cnt2 l ≤ 1 ∧ (cnt2 l = 1 → cntS l = 1)
  | [], _ => ⟨by simp [cnt2], by simp [cnt2]⟩
  | c :: l, h => by
    obtain ⟨h1, h2⟩ := h
    rw [List.pairwise_cons] at h2
    have hl : SafeP l := ⟨fun a ha => h1 a (by simp [ha]), h2.2⟩
    have ih := safe_counts l hl
    have hb : ∀ a ∈ l, fitB c.2 a.2 = true := fun a ha => (h2.1 a ha).2
    rcases mode_three (h1 c (by simp)) with e | e | e
    · have e1 : cnt2 (c :: l) = cnt2 l := by simp [cnt2, e]
      have e2 : cntS (c :: l) = cntS l := by simp [cntS, e]
      rw [e1, e2]
      exact ih
    · have e0 : cnt2 l = 0 := filter_none fun a ha => by
        have := hb a ha
        rw [e] at this
        rcases mode_three (fit_mode this).2 with q | q | q <;> rw [q] at this ⊢ <;> first | rfl | (revert this; decide)
      have e1 : cnt2 (c :: l) = cnt2 l := by simp [cnt2, e]
      rw [e1, e0]
      exact ⟨by omega, by omega⟩
    · have e0 : cnt2 l = 0 := filter_none fun a ha => by
        have := hb a ha
        rw [e] at this
        rcases mode_three (fit_mode this).2 with q | q | q <;> rw [q] at this ⊢ <;> first | rfl | (revert this; decide)
      have e9 : cntS l = 0 := filter_none fun a ha => by
        have := hb a ha
        rw [e] at this
        rcases mode_three (fit_mode this).2 with q | q | q <;> rw [q] at this ⊢ <;> first | rfl | (revert this; decide)
      have e1 : cnt2 (c :: l) = cnt2 l + 1 := by simp [cnt2, e]
      have e2 : cntS (c :: l) = cntS l + 1 := by simp [cntS, e]
      rw [e1, e2, e0, e9]
      exact ⟨by omega, fun _ => by omega⟩
theorem any_take {l : List Cl} {i : Nat} {c : Cl} (h : l[i]? = some c) (p : Cl → Bool) : (l.take (i + 1)).any p = ((l.take i).any p || p c) := by
  obtain ⟨hk, e⟩ := List.getElem?_eq_some_iff.1 h
  rw [List.take_succ_eq_append_getElem hk, e, List.any_append]
  simp
theorem safe_put {l : List Cl} (x : Cl) (h : SafeP l) : safeB (l ++ [x]) = (!(l.any fun a => a.1 == x.1) && (modeB x.2 && fitB (strM l x.1) x.2)) := by
  rw [Bool.eq_iff_iff]
  unfold safeB
  rw [decide_eq_true_iff, safe_snoc]
  simp only [Bool.and_eq_true, Bool.not_eq_true', List.any_eq_false, beq_iff_eq]
  constructor
  · rintro ⟨_, h2, h3⟩
    refine ⟨fun a ha => (h3 a ha).1, h2, ?_⟩
    have hs := str_some l x.1
    rw [Bool.or_eq_true, List.any_eq_true] at hs
    rcases hs with hs | ⟨c, hc, hs⟩
    · rw [eq_of_beq hs, fit_comm, fit_none]
      exact h2
    · rw [← eq_of_beq hs]
      exact (h3 c hc).2
  · rintro ⟨h1, h2, h3⟩
    exact ⟨h, h2, fun a ha => ⟨h1 a ha, str_fit ha (h.1 a ha) (h1 a ha) h3⟩⟩
theorem safe_yes {l : List Cl} (h : safeB l = true) : SafeP l := of_decide_eq_true h
theorem safe_drop {l : List Cl} (h : SafeP l) : safeB (l.drop 1) = true :=
  decide_eq_true ⟨fun c hc => h.1 c (List.mem_of_mem_drop hc), h.2.sublist (List.drop_sublist 1 l)⟩
theorem cls2_at {w : World} {g off : Nat} {l : List Cl} (hcs : ∀ i c, l[i]? = some c → w.cell? ⟨g, off + i * 2, none⟩ = some (.int .i64 c.1) ∧ w.cell? ⟨g, off + i * 2 + 1, none⟩ = some (.int .i64 c.2)) :
    ∀ (j : Nat) (u : Value), (cls2 l)[j]? = some u → w.cell? ((⟨g, off, none⟩ : Addr).add j) = some u := by
  intro j u hj
  have hlt := (List.getElem?_eq_some_iff.1 hj).1
  rw [cls2_length] at hlt
  obtain ⟨c, hc⟩ : ∃ c, l[j / 2]? = some c := ⟨_, List.getElem?_eq_getElem (by omega)⟩
  obtain ⟨q1, q2⟩ := cls2_get l (j / 2) c hc
  obtain ⟨h1, h2⟩ := hcs (j / 2) c hc
  rw [add_plain]
  rcases Nat.mod_two_eq_zero_or_one j with h | h
  · have e : j / 2 * 2 = j := by omega
    rw [e] at q1 h1
    rw [q1] at hj
    rw [h1, ← hj]
  · have e : j / 2 * 2 + 1 = j := by omega
    rw [e] at q2
    rw [Nat.add_assoc, e] at h2
    rw [q2] at hj
    rw [h2, ← hj]
theorem claims_tail {w : World} {g off n : Nat} {l : List Cl} (h : IsC w (some ⟨g, off, none⟩) n l) (hn : 0 < n) : IsC w (some ⟨g, off + 2, none⟩) (n - 1) (l.drop 1) :=
  ⟨by rw [List.length_drop, h.length], by have := h.max; omega, fun c hc => h.wf c (List.mem_of_mem_drop hc), fun h0 => by
    obtain ⟨g', off', e, hg, hc⟩ := h.cells hn
    injection e with e
    injection e with e1 e2
    subst e1 e2
    refine ⟨g, off + 2, rfl, hg, fun i c hi => ?_⟩
    rw [List.getElem?_drop] at hi
    have := hc (1 + i) c hi
    rw [show off + 2 + i * 2 = off + (1 + i) * 2 by omega]
    exact this⟩
theorem box_on {w w' : World} {p : Nat} {x y : Value} (hb : Below w.heap.size w w') (h : w.cell? ⟨p, 0, none⟩ = some x ∧ w.cell? ⟨p, 1, none⟩ = some y) : w'.cell? ⟨p, 0, none⟩ = some x ∧ w'.cell? ⟨p, 1, none⟩ = some y :=
  ⟨(hb.cell (p := ⟨p, 0, none⟩) (lt_of_cell h.1)).trans h.1, (hb.cell (p := ⟨p, 1, none⟩) (lt_of_cell h.2)).trans h.2⟩
set_option maxRecDepth 100000 in
set_option maxHeartbeats 4000000 in
theorem walk (A : Option Addr) (n cp : Nat) (l : List Cl) (more : Cl) (w : World) (hl : IsC w A n l) (hcp : n ≤ cp) (hA : A = none → n = 0) (wf1 : (Lit.int .i64 more.1).wf = true) (wf2 : (Lit.int .i64 more.2).wf = true) :
    Calls Try.prog 6 #[.slice A n cp, clV more] w fun e w' => e = .returned (.bool true) ∧ Below w.heap.size w w' := by
  have Hl := Lib.hid hl
  have HA := Lib.hid hA
  have Hwf := Lib.hid (And.intro wf1 wf2)
  clear hl hA wf1 wf2
  obtain ⟨l2, Hl2⟩ : ∃ x, Hid (l.take 12 = x) := ⟨_, Lib.hid rfl⟩
  obtain ⟨s, Hs⟩ : ∃ x, Hid (safeB l2 = x) := ⟨_, Lib.hid rfl⟩
  go_enter Try.func6, Try.ntmps6
  go_wp2_with fail
  obtain ⟨w0, Hw0⟩ : ∃ x, Hid (w.alloc (.cells #[.int .i64 more.1, .int .i64 more.2] 35) = x) := ⟨_, Lib.hid rfl⟩
  obtain ⟨p, Hp⟩ : ∃ x, Hid (w.heap.size = x) := ⟨_, Lib.hid rfl⟩
  have B0 : Hid (Below w.heap.size w w0) := Lib.hid (by rw [← Hw0.out]; exact balloc (Below.refl _ _) _)
  have M0 : Hid (w0.cell? ⟨p, 0, none⟩ = some (.int .i64 more.1) ∧ w0.cell? ⟨p, 1, none⟩ = some (.int .i64 more.2)) := Lib.hid (by rw [← Hw0.out, ← Hp.out]; constructor <;> simp [go_sem])
  rw [Hw0.out, Hp.out]
  refine (awake_any _).mono ?_
  rintro e w1 ⟨rfl, hb⟩
  have B1 := Lib.hid (bnext B0.out hb)
  have M1 : Hid (w1.cell? ⟨p, 0, none⟩ = some (.int .i64 more.1) ∧ w1.cell? ⟨p, 1, none⟩ = some (.int .i64 more.2)) := Lib.hid (box_on hb M0.out)
  clear hb
  go_wp2_with fail
  refine (few_any _ A n cp l (Hl.out.below B1.out) hcp HA.out).mono ?_
  rw [Hl2.out]
  rintro e w1' ⟨m, c', rfl, hm, hc, hmc, rfl⟩
  have C1 := Lib.hid hc
  clear hc
  go_wp2_with fail
  refine (Safe_any _ A m c' l2 C1.out).mono ?_
  rw [Hs.out]
  rintro e w2 ⟨rfl, hb⟩
  have B2 := Lib.hid (bnext B1.out hb)
  have C2 := Lib.hid (C1.out.below hb)
  have M2 := Lib.hid (box_on hb M1.out)
  clear hb
  cases s
  · go_wp2
    go_ret
    exact ⟨rfl, B2.out⟩
  · have HS := Lib.hid (safe_yes Hs.out)
    go_wp2
    rw [show Value.int .i64 0 = Value.int .i64 ((0 : Nat) : Int) from rfl]
    go_loopw [7, 8, 9, 10] (fun s7 s8 s9 si wr => ∃ i : Nat, si = .int .i64 (i : Int) ∧ i ≤ m ∧ s7 = .int .i64 (cnt2 (l2.take i) : Nat) ∧ s8 = .int .i64 (cntS (l2.take i) : Nat) ∧ s9 = .bool ((l2.take i).any fun a => a.1 == more.1) ∧ Hid (Below w2.heap.size w2 wr)) (fun _ _ _ si _ => m - (intOf si).toNat)
    case atStart => exact ⟨0, rfl, Nat.zero_le _, rfl, rfl, rfl, Lib.hid (Below.refl _ _)⟩
    case round =>
      obtain ⟨i, rfl, hi, rfl, rfl, rfl, HB⟩ := hrel
      obtain ⟨a, Ha⟩ : ∃ x, Hid (cnt2 (l2.take i) = x) := ⟨_, Lib.hid rfl⟩
      obtain ⟨b, Hb⟩ : ∃ x, Hid (cntS (l2.take i) = x) := ⟨_, Lib.hid rfl⟩
      obtain ⟨th, Hth⟩ : ∃ x, Hid (((l2.take i).any fun a => a.1 == more.1) = x) := ⟨_, Lib.hid rfl⟩
      have ha : a ≤ i := by have := cnt2_le (l2.take i); rw [Ha.out, List.length_take] at this; omega
      have hbi : b ≤ i := by have := cntS_le (l2.take i); rw [Hb.out, List.length_take] at this; omega
      rw [Ha.out, Hb.out, Hth.out]
      by_cases hlt : i < m
      · have hlt' : (i : Int) < (m : Int) := by omega
        obtain ⟨c, hc⟩ : ∃ c, l2[i]? = some c := ⟨_, List.getElem?_eq_getElem (by rw [C2.out.length]; exact hlt)⟩
        obtain ⟨g, off, rfl, hg, hcs⟩ := (C2.out.below HB.out).cells (by omega)
        obtain ⟨c0, c1⟩ := hcs i c hc
        have Hany := Lib.hid (any_take hc fun a => a.1 == more.1)
        have H2 := Lib.hid (cnt2_next hc)
        have H3 := Lib.hid (cntS_next hc)
        rw [Hth.out] at Hany
        rw [Ha.out] at H2
        rw [Hb.out] at H3
        have Hmo := Lib.hid (mode_three (HS.out.1 c (List.mem_of_getElem? hc)))
        have C0 := Lib.hid c0
        clear hcs hc
        have i4 : (i : Int) < (m : Int) := hlt'
        rcases Hmo.out with hmz | hmz | hmz
        · rw [hmz] at c1 H2 H3
          obtain ⟨bq, Hbq⟩ : ∃ x, Hid ((c.1 == more.1) = x) := ⟨_, Lib.hid rfl⟩
          cases th
          · have b0 := Hbq.out
            go_wp2_with fail
            have k0 : ∀ y : In (Abv wr), y.u.cell? ⟨g, off + i * 2, none⟩ = some (.int .i64 c.1) := fun y => (y.is.cell (p := ⟨g, off + i * 2, none⟩) hg).trans C0.out
            have k1 : ∀ y : In (Abv wr), y.u.cell? ⟨p, 0, none⟩ = some (.int .i64 more.1) := fun y => (box_on y.is (box_on HB.out M2.out)).1
            refine wp_region_mix (by kernel_rfl) (Cls (Abv wr)) [(0, 0), (1, 0), (2, 0), (3, 0), (4, 0), (5, 0), (6, 0), (7, 0), (8, 0), (9, 0), (10, 0), (11, 0)] (by kernel_rfl) (cls (Below.refl _ _).drew) ?_
            repeat (refine mix0 rfl (fun K hK => ?_); go_simp; refine hK _ ?_; clear hK K)
            refine mixEnd ?_
            clear k0 k1
            go_wp2
            go_roundw
            case rel => exact ⟨i + 1, by go_num, by omega, by rw [H2.out]; simp, by rw [H3.out]; simp, by rw [Hany.out]; simp [Hbq.out], Lib.hid HB.out.drew⟩
            case measure => simp [intOf]; omega
          · have b0 := Hbq.out
            go_wp2_with fail
            have k0 : ∀ y : In (Abv wr), y.u.cell? ⟨g, off + i * 2, none⟩ = some (.int .i64 c.1) := fun y => (y.is.cell (p := ⟨g, off + i * 2, none⟩) hg).trans C0.out
            have k1 : ∀ y : In (Abv wr), y.u.cell? ⟨p, 0, none⟩ = some (.int .i64 more.1) := fun y => (box_on y.is (box_on HB.out M2.out)).1
            refine wp_region_mix (by kernel_rfl) (Cls (Abv wr)) [(0, 0), (1, 0), (2, 0), (3, 0), (4, 0), (5, 0), (6, 0), (7, 0), (8, 0), (9, 0), (10, 0), (11, 0)] (by kernel_rfl) (cls (Below.refl _ _).drew) ?_
            repeat (refine mix0 rfl (fun K hK => ?_); go_simp; refine hK _ ?_; clear hK K)
            refine mixEnd ?_
            clear k0 k1
            go_wp2
            go_roundw
            case rel => exact ⟨i + 1, by go_num, by omega, by rw [H2.out]; simp, by rw [H3.out]; simp, by rw [Hany.out]; simp [Hbq.out], Lib.hid HB.out.drew⟩
            case measure => simp [intOf]; omega
        · rw [hmz] at c1 H2 H3
          obtain ⟨bq, Hbq⟩ : ∃ x, Hid ((c.1 == more.1) = x) := ⟨_, Lib.hid rfl⟩
          cases th
          · have b0 := Hbq.out
            go_wp2_with fail
            have k0 : ∀ y : In (Abv wr), y.u.cell? ⟨g, off + i * 2, none⟩ = some (.int .i64 c.1) := fun y => (y.is.cell (p := ⟨g, off + i * 2, none⟩) hg).trans C0.out
            have k1 : ∀ y : In (Abv wr), y.u.cell? ⟨p, 0, none⟩ = some (.int .i64 more.1) := fun y => (box_on y.is (box_on HB.out M2.out)).1
            refine wp_region_mix (by kernel_rfl) (Cls (Abv wr)) [(0, 0), (1, 0), (2, 0), (3, 0), (4, 0), (5, 0), (6, 0), (7, 0), (8, 0), (9, 0), (10, 0), (11, 0)] (by kernel_rfl) (cls (Below.refl _ _).drew) ?_
            repeat (refine mix0 rfl (fun K hK => ?_); go_simp; refine hK _ ?_; clear hK K)
            refine mixEnd ?_
            clear k0 k1
            go_wp2
            go_roundw
            case rel => exact ⟨i + 1, by go_num, by omega, by rw [H2.out]; simp, by rw [H3.out]; simp, by rw [Hany.out]; simp [Hbq.out], Lib.hid HB.out.drew⟩
            case measure => simp [intOf]; omega
          · have b0 := Hbq.out
            go_wp2_with fail
            have k0 : ∀ y : In (Abv wr), y.u.cell? ⟨g, off + i * 2, none⟩ = some (.int .i64 c.1) := fun y => (y.is.cell (p := ⟨g, off + i * 2, none⟩) hg).trans C0.out
            have k1 : ∀ y : In (Abv wr), y.u.cell? ⟨p, 0, none⟩ = some (.int .i64 more.1) := fun y => (box_on y.is (box_on HB.out M2.out)).1
            refine wp_region_mix (by kernel_rfl) (Cls (Abv wr)) [(0, 0), (1, 0), (2, 0), (3, 0), (4, 0), (5, 0), (6, 0), (7, 0), (8, 0), (9, 0), (10, 0), (11, 0)] (by kernel_rfl) (cls (Below.refl _ _).drew) ?_
            repeat (refine mix0 rfl (fun K hK => ?_); go_simp; refine hK _ ?_; clear hK K)
            refine mixEnd ?_
            clear k0 k1
            go_wp2
            go_roundw
            case rel => exact ⟨i + 1, by go_num, by omega, by rw [H2.out]; simp, by rw [H3.out]; simp, by rw [Hany.out]; simp [Hbq.out], Lib.hid HB.out.drew⟩
            case measure => simp [intOf]; omega
        · rw [hmz] at c1 H2 H3
          obtain ⟨bq, Hbq⟩ : ∃ x, Hid ((c.1 == more.1) = x) := ⟨_, Lib.hid rfl⟩
          cases th
          · have b0 := Hbq.out
            go_wp2_with fail
            have k0 : ∀ y : In (Abv wr), y.u.cell? ⟨g, off + i * 2, none⟩ = some (.int .i64 c.1) := fun y => (y.is.cell (p := ⟨g, off + i * 2, none⟩) hg).trans C0.out
            have k1 : ∀ y : In (Abv wr), y.u.cell? ⟨p, 0, none⟩ = some (.int .i64 more.1) := fun y => (box_on y.is (box_on HB.out M2.out)).1
            refine wp_region_mix (by kernel_rfl) (Cls (Abv wr)) [(0, 0), (1, 0), (2, 0), (3, 0), (4, 0), (5, 0), (6, 0), (7, 0), (8, 0), (9, 0), (10, 0), (11, 0)] (by kernel_rfl) (cls (Below.refl _ _).drew) ?_
            repeat (refine mix0 rfl (fun K hK => ?_); go_simp; refine hK _ ?_; clear hK K)
            refine mixEnd ?_
            clear k0 k1
            go_wp2
            go_roundw
            case rel => exact ⟨i + 1, by go_num, by omega, by rw [H2.out]; simp, by rw [H3.out]; simp, by rw [Hany.out]; simp [Hbq.out], Lib.hid HB.out.drew⟩
            case measure => simp [intOf]; omega
          · have b0 := Hbq.out
            go_wp2_with fail
            have k0 : ∀ y : In (Abv wr), y.u.cell? ⟨g, off + i * 2, none⟩ = some (.int .i64 c.1) := fun y => (y.is.cell (p := ⟨g, off + i * 2, none⟩) hg).trans C0.out
            have k1 : ∀ y : In (Abv wr), y.u.cell? ⟨p, 0, none⟩ = some (.int .i64 more.1) := fun y => (box_on y.is (box_on HB.out M2.out)).1
            refine wp_region_mix (by kernel_rfl) (Cls (Abv wr)) [(0, 0), (1, 0), (2, 0), (3, 0), (4, 0), (5, 0), (6, 0), (7, 0), (8, 0), (9, 0), (10, 0), (11, 0)] (by kernel_rfl) (cls (Below.refl _ _).drew) ?_
            repeat (refine mix0 rfl (fun K hK => ?_); go_simp; refine hK _ ?_; clear hK K)
            refine mixEnd ?_
            clear k0 k1
            go_wp2
            go_roundw
            case rel => exact ⟨i + 1, by go_num, by omega, by rw [H2.out]; simp, by rw [H3.out]; simp, by rw [Hany.out]; simp [Hbq.out], Lib.hid HB.out.drew⟩
            case measure => simp [intOf]; omega
      · obtain rfl : i = m := by omega
        have Hfull : Hid (l2.take i = l2) := Lib.hid (List.take_of_length_le (by rw [C2.out.length]; omega))
        rw [Hfull.out] at Ha Hb Hth
        have Hcn := Lib.hid (safe_counts l2 HS.out)
        rw [Ha.out, Hb.out] at Hcn
        have CR := Lib.hid (C2.out.below HB.out)
        have MR := Lib.hid (box_on HB.out M2.out)
        have BR := Lib.hid (bnext B2.out HB.out)
        go_upto_region 16 with (fail)
        go_cut [61] (fun v wx => v = .bool false ∧ wr = wx)
        case first =>
          have hab : (a = 0) ∨ (a = 1 ∧ b = 1) := by have := Hcn.out; omega
          rcases hab with rfl | ⟨rfl, rfl⟩
          · go_wp2
            go_meet
            exact ⟨rfl, rfl⟩
          · go_wp2
            go_meet
            exact ⟨rfl, rfl⟩
        case rest =>
          obtain ⟨rfl, hwc⟩ := hcut
          subst hwc
          clear HB hbi ha Hcn
          go_upto_region 18 with (fail)
          go_cut [70] (fun v wx => v = .bool false ∧ Hid (Below wr.heap.size wr wx))
          case first =>
            by_cases h0 : i = 0
            · subst h0
              go_wp2
              go_meet
              exact ⟨rfl, Lib.hid (Below.refl _ _)⟩
            · have h0' : (0 : Int) < (i : Int) := by omega
              obtain ⟨g, off, rfl, hg, _⟩ := CR.out.cells (by omega)
              have HT := Lib.hid (claims_tail CR.out (by omega))
              have Hdr := Lib.hid (safe_drop HS.out)
              have h1' : (1 : Int) ≤ (i : Int) := by omega
              have h2' : (i : Int) ≤ (c' : Int) := by omega
              by_cases hc1 : c' = 1
              · have HT0 : Hid (IsC wr (some ⟨g, off, none⟩) 0 (l2.drop 1)) := Lib.hid ⟨by have := HT.out.length; omega, Nat.zero_le _, HT.out.wf, fun h => by omega⟩
                subst hc1
                clear h0
                go_wp2_with fail
                refine (Safe_any _ _ _ _ (l2.drop 1) HT0.out).mono ?_
                rw [Hdr.out]
                rintro e w3 ⟨rfl, hb⟩
                have B3 := Lib.hid hb
                clear hb
                go_wp2
                go_meet
                exact ⟨rfl, B3⟩
              · have hc2 : ¬ c' - 1 = 0 := by omega
                have hc3 : ¬ (c' : Int) - 1 = 0 := by omega
                clear h0
                go_wp2_with fail
                refine (Safe_any _ _ _ _ (l2.drop 1) HT.out).mono ?_
                rw [Hdr.out]
                rintro e w3 ⟨rfl, hb⟩
                have B3 := Lib.hid hb
                clear hb
                go_wp2
                go_meet
                exact ⟨rfl, B3⟩
          case rest =>
            obtain ⟨rfl, HB3⟩ := hcut
            have B3 := Lib.hid (bnext BR.out HB3.out)
            have C3 := Lib.hid (CR.out.below HB3.out)
            have M3 := Lib.hid (box_on HB3.out MR.out)
            obtain ⟨i0, hi0, hz0, hz1, hz2⟩ := info_parts infoC
            have Hi := Lib.hid hi0
            have Hz0 := Lib.hid hz0
            have Hz1 := Lib.hid hz1
            have Hz2 := Lib.hid hz2
            clear hi0 hz0 hz1 hz2
            go_upto_region 21 with (fail)
            go_cut [11] (fun v wx => ∃ (B : Option Addr) (bc : Nat), v = .slice B i bc ∧ Hid (OwnC wx wr.heap.size B i bc l2) ∧ Hid (Below wr.heap.size wr wx))
            case first =>
              by_cases h0 : i = 0
              · subst h0
                have hl0 : Hid (l2 = []) := Lib.hid (List.eq_nil_of_length_eq_zero C3.out.length)
                go_wp2_with (at_builtin; refine wpList_append_none _ rfl (.tmp 71) (.tmp 72) 28 rfl 35 i0 Try.underlying28 Hi.out rfl A c' rfl ?_)
                go_wp2
                go_meet
                exact ⟨none, 0, rfl, Lib.hid (by rw [hl0.out]; exact OwnC.nil _ _), HB3⟩
              · obtain ⟨g, off, rfl, hg, hcs⟩ := C3.out.cells (by omega)
                have Hat : Hid (∀ (j : Nat) (u : Value), (cls2 l2)[j]? = some u → wc.cell? ((⟨g, off, none⟩ : Addr).add j) = some u) := Lib.hid (cls2_at hcs)
                have Hlen : Hid ((cls2 l2).length = i * 2) := Lib.hid (by rw [cls2_length, C3.out.length])
                clear hcs
                go_wp2_with (at_builtin; refine wpList_append_row _ rfl (.tmp 71) (.tmp 72) 28 rfl (row_nil wc 2) 35 i0 (.agg #[.int .i64 0, .int .i64 0]) 16 Try.underlying28 Hi.out Hz0.out Hz1.out Hz2.out rfl (by decide) rfl ⟨g, off, none⟩ i c' (cls2 l2) rfl Hlen.out Hat.out (cls2_cells l2) (by omega) ?c3 ?c4 ?_)
                case c3 => unfold maxLen; omega
                case c4 => omega
                intro q cap' w4 hr hm2 hb2
                try simp only [Nat.zero_add, List.nil_append] at hr hb2
                have HO4 : Hid (OwnC w4 wr.heap.size (some q) i cap' l2) := Lib.hid ⟨hr, fun g' hg' => by
                  rcases hb2 with e | ⟨g'', e, h⟩
                  · rw [e] at hg'; cases hg'
                  · rw [e] at hg'; obtain rfl := Option.some.inj hg'; exact Nat.le_trans HB3.out.size h⟩
                have HB4 : Hid (Below wr.heap.size wr w4) := Lib.hid (bnext HB3.out (hm2.to_below fun i _ h => by cases h))
                clear hr hm2 hb2
                try rw [Nat.zero_add]
                go_wp2
                go_meet
                exact ⟨some q, cap', rfl, HO4, HB4⟩
            case rest =>
              obtain ⟨B, bc, rfl, HO, HB4⟩ := hcut
              have B4 := Lib.hid (bnext BR.out HB4.out)
              have M4 := Lib.hid (box_on HB4.out MR.out)
              have m0 := M4.out.1
              have m1 := M4.out.2
              have hrow : Row (wc.alloc (.cells #[.int .i64 more.1, .int .i64 more.2] 35)) 2 (.slice B i bc) i (cls2 l2) := HO.out.row.later (S := fun _ => False) (Mod.of_below (balloc (Below.refl _ _) _)) (fun _ _ h => h)
              have Hrow := Lib.hid hrow
              have Hat := Lib.hid (cl1_at wc more)
              clear hrow
              go_wp2_with (at_builtin; refine wpList_append_row _ rfl (.tmp 74) (.tmp 76) 28 rfl Hrow.out 35 i0 (.agg #[.int .i64 0, .int .i64 0]) 16 Try.underlying28 Hi.out Hz0.out Hz1.out Hz2.out rfl (by decide) rfl ⟨wc.heap.size, 0, none⟩ 1 1 (cl1 more) rfl rfl Hat.out (cl1_one more) (by decide) ?c3 ?c4 ?_)
              case c3 => unfold maxLen; omega
              case c4 => omega
              intro q cap' w5 hr hm2 hb2
              have b1 : Below wr.heap.size wr (wc.alloc (.cells #[.int .i64 more.1, .int .i64 more.2] 35)) := balloc HB4.out _
              have HB5 : Hid (Below wr.heap.size wr w5) := Lib.hid (hm2.below b1 b1.size (fun i hi => HO.out.new i hi))
              have HO5 : Hid (OwnC w5 wr.heap.size (some q) (i + 1) cap' (l2 ++ [more])) := Lib.hid (OwnC.more (w := wc) HO.out HB4.out.size more hr (hb2.imp id (fun ⟨g, h1, h2⟩ => ⟨g, h1, by omega⟩)))
              clear hr hm2 hb2 b1 m0 m1
              have hD := HO5.out.is (fun c hc => by
                rw [List.mem_append, List.mem_singleton] at hc
                rcases hc with hc | rfl
                · exact CR.out.wf c hc
                · exact Hwf.out)
              have D5 := Lib.hid hD.1
              clear hD
              have C5 := Lib.hid (CR.out.below HB5.out)
              have M5 := Lib.hid (box_on HB5.out MR.out)
              have B5 := Lib.hid (bnext BR.out HB5.out)
              obtain ⟨mb, Hmb⟩ : ∃ x, Hid (modeB more.2 = x) := ⟨_, Lib.hid rfl⟩
              obtain ⟨st, Hst⟩ : ∃ x, Hid (strM l2 more.1 = x) := ⟨_, Lib.hid rfl⟩
              obtain ⟨fb, Hfb⟩ : ∃ x, Hid (fitB st more.2 = x) := ⟨_, Lib.hid rfl⟩
              have HSF : Hid (safeB (l2 ++ [more]) = (!th && (mb && fb))) := Lib.hid (by rw [safe_put more HS.out, Hth.out, Hmb.out, Hst.out, Hfb.out])
              go_upto_region 23 with (fail)
              have k0 : ∀ y : In (Abv w5), y.u.cell? ⟨p, 0, none⟩ = some (.int .i64 more.1) := fun y => (box_on y.is M5.out).1
              have k1 : ∀ y : In (Abv w5), y.u.cell? ⟨p, 1, none⟩ = some (.int .i64 more.2) := fun y => (box_on y.is M5.out).2
              cases th
              · cases mb
                · skip
                  have HSF2 : Hid (safeB (l2 ++ [more]) = false) := Lib.hid (by rw [HSF.out]; rfl)
                  refine wp_region_mix (by kernel_rfl) (Cls (Abv w5)) [(0, 0), (1, 0), (2, 0), (4, 0), (5, 0), (3, 1), (6, 0), (7, 0), (8, 0), (9, 1), (10, 0), (11, 0), (12, 0), (13, 0), (14, 0), (16, 0), (17, 0), (15, 1), (18, 1), (19, 0), (20, 0), (21, 0), (22, 0)] (by kernel_rfl) (cls (Below.refl _ _).drew) ?_
                  repeat (refine mix0 rfl (fun K hK => ?_); go_simp; refine hK _ ?_; clear hK K)
                  refine mix1 rfl (fun K hK => ?_)
                  go_simp
                  refine (Safe_any _ (some q) (i + 1) cap' (l2 ++ [more]) (D5.out.below (Below.refl _ _).drew)).mono ?_
                  rw [HSF2.out]
                  rintro e v1 ⟨rfl, hb⟩
                  have Qv1 : Hid (Below w5.heap.size w5 v1) := Lib.hid (bnext (Below.refl _ _).drew hb)
                  clear hb
                  refine ⟨_, rfl, hK _ _ (cls Qv1.out) ?_⟩
                  clear hK K
                  repeat (refine mix0 rfl (fun K hK => ?_); go_simp; refine hK _ ?_; clear hK K)
                  refine mix1 rfl (fun K hK => ?_)
                  go_simp
                  refine (Is_any _ more.2).mono ?_
                  rw [Hmb.out]
                  rintro e v2 ⟨rfl, hb⟩
                  have Qv2 : Hid (Below w5.heap.size w5 v2) := Lib.hid (bnext Qv1.out hb)
                  clear hb
                  refine ⟨_, rfl, hK _ _ (cls Qv2.out) ?_⟩
                  clear hK K
                  repeat (refine mix0 rfl (fun K hK => ?_); go_simp; refine hK _ ?_; clear hK K)
                  refine mix1 rfl (fun K hK => ?_)
                  go_simp
                  refine hK _ _ (cls Qv2.out) ?_
                  clear hK K
                  repeat (refine mix0 rfl (fun K hK => ?_); go_simp; refine hK _ ?_; clear hK K)
                  refine mix1 rfl (fun K hK => ?_)
                  go_simp
                  refine hK _ _ (cls Qv2.out) ?_
                  clear hK K
                  repeat (refine mix0 rfl (fun K hK => ?_); go_simp; refine hK _ ?_; clear hK K)
                  refine mixEnd ?_
                  clear k0 k1
                  go_wp2
                  go_ret
                  exact ⟨ret_bool (by simp), bnext B5.out Qv2.out⟩
                · skip
                  have HSF2 : Hid (safeB (l2 ++ [more]) = fb) := Lib.hid (by rw [HSF.out]; cases fb <;> rfl)
                  refine wp_region_mix (by kernel_rfl) (Cls (Abv w5)) [(0, 0), (1, 0), (2, 0), (4, 0), (5, 0), (3, 1), (6, 0), (7, 0), (8, 0), (9, 1), (10, 0), (11, 0), (12, 0), (13, 0), (14, 0), (16, 0), (17, 0), (15, 1), (18, 1), (19, 0), (20, 0), (21, 0), (22, 0)] (by kernel_rfl) (cls (Below.refl _ _).drew) ?_
                  repeat (refine mix0 rfl (fun K hK => ?_); go_simp; refine hK _ ?_; clear hK K)
                  refine mix1 rfl (fun K hK => ?_)
                  go_simp
                  refine (Safe_any _ (some q) (i + 1) cap' (l2 ++ [more]) (D5.out.below (Below.refl _ _).drew)).mono ?_
                  rw [HSF2.out]
                  rintro e v1 ⟨rfl, hb⟩
                  have Qv1 : Hid (Below w5.heap.size w5 v1) := Lib.hid (bnext (Below.refl _ _).drew hb)
                  clear hb
                  refine ⟨_, rfl, hK _ _ (cls Qv1.out) ?_⟩
                  clear hK K
                  repeat (refine mix0 rfl (fun K hK => ?_); go_simp; refine hK _ ?_; clear hK K)
                  refine mix1 rfl (fun K hK => ?_)
                  go_simp
                  refine (Is_any _ more.2).mono ?_
                  rw [Hmb.out]
                  rintro e v2 ⟨rfl, hb⟩
                  have Qv2 : Hid (Below w5.heap.size w5 v2) := Lib.hid (bnext Qv1.out hb)
                  clear hb
                  refine ⟨_, rfl, hK _ _ (cls Qv2.out) ?_⟩
                  clear hK K
                  repeat (refine mix0 rfl (fun K hK => ?_); go_simp; refine hK _ ?_; clear hK K)
                  refine mix1 rfl (fun K hK => ?_)
                  go_simp
                  refine (Strongest_any _ A i c' l2 (C5.out.below Qv2.out) more.1).mono ?_
                  rw [Hst.out]
                  rintro e v3 ⟨rfl, hb⟩
                  have Qv3 : Hid (Below w5.heap.size w5 v3) := Lib.hid (bnext Qv2.out hb)
                  clear hb
                  refine ⟨_, rfl, hK _ _ (cls Qv3.out) ?_⟩
                  clear hK K
                  repeat (refine mix0 rfl (fun K hK => ?_); go_simp; refine hK _ ?_; clear hK K)
                  refine mix1 rfl (fun K hK => ?_)
                  go_simp
                  refine (Fit_any _ st more.2).mono ?_
                  rw [Hfb.out]
                  rintro e v4 ⟨rfl, hb⟩
                  have Qv4 : Hid (Below w5.heap.size w5 v4) := Lib.hid (bnext Qv3.out hb)
                  clear hb
                  refine ⟨_, rfl, hK _ _ (cls Qv4.out) ?_⟩
                  clear hK K
                  repeat (refine mix0 rfl (fun K hK => ?_); go_simp; refine hK _ ?_; clear hK K)
                  refine mixEnd ?_
                  clear k0 k1
                  go_wp2
                  go_ret
                  exact ⟨ret_bool (by simp), bnext B5.out Qv4.out⟩
              · skip
                have HSF2 : Hid (safeB (l2 ++ [more]) = false) := Lib.hid (by rw [HSF.out]; rfl)
                refine wp_region_mix (by kernel_rfl) (Cls (Abv w5)) [(0, 0), (1, 0), (2, 0), (4, 0), (5, 0), (3, 1), (6, 0), (7, 0), (8, 0), (9, 1), (10, 0), (11, 0), (12, 0), (13, 0), (14, 0), (16, 0), (17, 0), (15, 1), (18, 1), (19, 0), (20, 0), (21, 0), (22, 0)] (by kernel_rfl) (cls (Below.refl _ _).drew) ?_
                repeat (refine mix0 rfl (fun K hK => ?_); go_simp; refine hK _ ?_; clear hK K)
                refine mix1 rfl (fun K hK => ?_)
                go_simp
                refine (Safe_any _ (some q) (i + 1) cap' (l2 ++ [more]) (D5.out.below (Below.refl _ _).drew)).mono ?_
                rw [HSF2.out]
                rintro e v1 ⟨rfl, hb⟩
                have Qv1 : Hid (Below w5.heap.size w5 v1) := Lib.hid (bnext (Below.refl _ _).drew hb)
                clear hb
                refine ⟨_, rfl, hK _ _ (cls Qv1.out) ?_⟩
                clear hK K
                repeat (refine mix0 rfl (fun K hK => ?_); go_simp; refine hK _ ?_; clear hK K)
                refine mix1 rfl (fun K hK => ?_)
                go_simp
                refine hK _ _ (cls Qv1.out) ?_
                clear hK K
                repeat (refine mix0 rfl (fun K hK => ?_); go_simp; refine hK _ ?_; clear hK K)
                refine mix1 rfl (fun K hK => ?_)
                go_simp
                refine hK _ _ (cls Qv1.out) ?_
                clear hK K
                repeat (refine mix0 rfl (fun K hK => ?_); go_simp; refine hK _ ?_; clear hK K)
                refine mix1 rfl (fun K hK => ?_)
                go_simp
                refine hK _ _ (cls Qv1.out) ?_
                clear hK K
                repeat (refine mix0 rfl (fun K hK => ?_); go_simp; refine hK _ ?_; clear hK K)
                refine mixEnd ?_
                clear k0 k1
                go_wp2
                go_ret
                exact ⟨ret_bool (by simp), bnext B5.out Qv1.out⟩
theorem own : ownKnob Try.prog.godebug = none := by kernel_rfl
theorem laidOut : laidOutB Try.prog = true := by kernel_rfl
set_option maxRecDepth 100000 in
theorem lifted (os : Os) (started : os.Started) (H : Type) (enc : TypeId × Value → H) :
    ReturnsInHanded {} Try.checked os 6 .any (Rows.modeSafeSpec.pre6 enc Try.prog Try.f6 Rows.modeSafeRow.domain false) (Rows.modeSafeSpec.post enc Try.prog Try.f6 false true false false) := by
  refine returnsInHanded_of_change (C := Try.checked) own started (by kernel_rfl) Try.func6
    (ChangeSpec.witness6 (enc := enc) (C := Try.checked) false ⟨#[], #[.slice none 0 0, .agg #[.int .i64 0, .int .i64 0]], []⟩ 8 (by kernel_rfl) (by kernel_rfl) (by kernel_rfl) (by kernel_rfl)) ?_
  intro W base args ds gs before hval0 hW hcnd _
  have hval : ∀ (j : Nat) t v, Try.f6.params[j]? = some t → args[j]? = some v → Value.okWide Try.prog W .any base t v := hval0
  have hW' := hW
  obtain ⟨p, q, hA0, hV, rfl, hfz, hnd⟩ := hW
  have hA : DataW.TrodAll enc Try.prog W 0 (fun _ => true) true Try.f6.params.toList args.toList ds p := hA0
  rw [Try.params6] at hA hval
  obtain ⟨v0, vs0, d0, ds0, p0, q0, hargs, rfl, rfl, h0, r0⟩ := trodAll_cons hA
  obtain ⟨v1, vs1, d1, ds1, p1, q1, rfl, rfl, rfl, h1, r1⟩ := trodAll_cons r0
  obtain ⟨rfl, rfl, rfl⟩ := trodAll_nil r1
  obtain rfl : args = #[v0, v1] := by cases args; simp_all
  obtain ⟨x0, len0, cap0, a0, rfl, w0, y0, z0⟩ := opens_claims (hval 0 28 v0 rfl rfl) h0
  obtain ⟨a1, rfl, w1, y1⟩ := open_claim (hval 1 35 v1 rfl rfl) h1
  clear hA0 hval0
  refine (walk x0 len0 cap0 a0 a1 W w0 y0 z0 w1 y1).mono fun e W' ⟨he, bel⟩ => ?_
  subst he
  exact ⟨_, rfl, law_post laidOut (by rw [Try.params6]; decide +kernel) rfl Try.underlying4 rfl hW' (fun _ => rfl) bel⟩
theorem over : Rows.modeSafeRow.holds Try.pinned (OpenSpec.ofChange Rows.modeSafeSpec) :=
  OpenClaim.holds_of_wide 6 Try.f6 rfl rfl rfl rfl rfl rfl rfl ⟨rfl, rfl, rfl, rfl, rfl⟩ rfl rfl rfl rfl rfl (by kernel_rfl) Try.func6 (by kernel_rfl)
    (of_decide_eq_true (by kernel_rfl)) (by unfold Func.isWrapper; first | (rw [if_pos (by decide +kernel)]; kernel_rfl) | (rw [if_neg (by decide +kernel)]; exact ⟨rfl, rfl⟩))
    (fun os started H enc _ => lifted os started H enc)
theorem proved : Rows.ModeSafeSaid := over
end Go.Proofs.Ytfmbhpfggkmdoaa.modeSafe
