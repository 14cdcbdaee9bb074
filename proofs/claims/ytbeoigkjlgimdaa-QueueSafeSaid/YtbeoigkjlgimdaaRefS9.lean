/- What the document tells of claims. -/
import Derived.Test.YtbeoigkjlgimdaaRef9
import Derived.Test.YtbeoigkjlgimdaaSafe9
import Derived.Deep.LoopGhost
namespace Go.Proofs.Ytbeoigkjlgimdaa
open Go.RowKit

theorem safe_no {l : List Cl} {k : Nat} (h : ¬ SafeP (l.take k)) : safeB l = false := by
  unfold safeB
  rw [decide_eq_false_iff_not]
  exact fun hs => h (safe_take hs)
/-- The first j of l may stand beside c. -/
def Bes (l : List Cl) (c : Cl) (j : Nat) : Prop := ∀ a x, a < j → l[a]? = some x → Beside x c
theorem bes_zero (l : List Cl) (c : Cl) : Bes l c 0 := fun a x h => by omega
theorem bes_next {l : List Cl} {c x : Cl} {j : Nat} (h : Bes l c j) (hx : l[j]? = some x) (hb : Beside x c) : Bes l c (j + 1) := fun a y ha hy => by
  rcases Nat.lt_or_ge a j with h1 | h1
  · exact h a y h1 hy
  · obtain rfl : a = j := by omega
    rw [hx] at hy
    obtain rfl := Option.some.inj hy
    exact hb
theorem bes_all {l : List Cl} {c : Cl} {i : Nat} (hc : l[i]? = some c) (hs : SafeP (l.take i)) (hm : modeB c.2 = true) (h : Bes l c i) : SafeP (l.take (i + 1)) := by
  obtain ⟨hk, e⟩ := List.getElem?_eq_some_iff.1 hc
  rw [List.take_succ_eq_append_getElem hk, e, safe_snoc]
  refine ⟨hs, hm, fun a ha => ?_⟩
  obtain ⟨j, hj, rfl⟩ := List.getElem_of_mem ha
  have hj2 : j < i := by rw [List.length_take] at hj; omega
  refine h j _ hj2 ?_
  rw [List.getElem_take]
  exact List.getElem?_eq_getElem (by omega)
theorem bes_not {l : List Cl} {c x : Cl} {i j : Nat} (hc : l[i]? = some c) (hx : l[j]? = some x) (hj : j < i) (h : ¬ Beside x c) : ¬ SafeP (l.take (i + 1)) := by
  obtain ⟨hk, e⟩ := List.getElem?_eq_some_iff.1 hc
  rw [List.take_succ_eq_append_getElem hk, e, safe_snoc]
  rintro ⟨_, _, h3⟩
  refine h (h3 x (List.mem_of_getElem? (i := j) ?_))
  rw [List.getElem?_take, if_pos hj]
  exact hx
theorem mode_not {l : List Cl} {c : Cl} {i : Nat} (hc : l[i]? = some c) (h : modeB c.2 = false) : ¬ SafeP (l.take (i + 1)) := by
  obtain ⟨hk, e⟩ := List.getElem?_eq_some_iff.1 hc
  rw [List.take_succ_eq_append_getElem hk, e, safe_snoc]
  rintro ⟨_, h2, _⟩
  rw [h] at h2; cases h2
set_option maxHeartbeats 2000000 in
theorem SafeR_any (w : World) (A : Option Addr) (n cp : Nat) (l : List Cl) (hl : IsC w A n l) :
    Calls Try.prog 11 #[.slice A n cp] w fun e w' => e = .returned (.bool (safeB l)) ∧ Below w.heap.size w w' := by
  have hn := hl.small
  have Hl := Lib.hid hl
  obtain ⟨R, HR⟩ : ∃ x, Hid (safeB l = x) := ⟨_, Lib.hid rfl⟩
  rw [HR.out]
  clear hl
  go_enter Try.func11, Try.ntmps11
  go_wp2
  rw [show Value.int .i64 0 = Value.int .i64 ((0 : Nat) : Int) from rfl]
  go_loopg [3, 4, 5, 6] n (fun g s3 _ _ _ wx => ∃ i : Nat, s3 = .int .i64 (i : Int) ∧ i + g = n ∧ Hid (SafeP (l.take i)) ∧ Hid (Below w.heap.size w wx))
  case atStart => exact ⟨0, rfl, by omega, Lib.hid (by simp [SafeP]), Lib.hid (Below.refl _ _)⟩
  case round =>
    obtain ⟨i, rfl, hg, HS, HB⟩ := hrel
    by_cases hlt : i < n
    · obtain ⟨g1, rfl⟩ : ∃ g1, gk = g1 + 1 := ⟨gk - 1, by omega⟩
      obtain ⟨c, hc⟩ : ∃ c, l[i]? = some c := ⟨_, List.getElem?_eq_getElem (by rw [Hl.out.length]; exact hlt)⟩
      have Hc := Lib.hid hc
      obtain ⟨g, off, rfl, hg0, hcells⟩ := (Hl.out.below HB.out).cells (by omega)
      have Hcells := Lib.hid hcells
      obtain ⟨c0, c1⟩ := hcells i c hc
      clear hcells hc
      obtain ⟨m, Hm⟩ : ∃ x, Hid (modeB c.2 = x) := ⟨_, Lib.hid rfl⟩
      go_wp2_with fail
      refine (IsR_any _ c.2).mono ?_
      rw [Hm.out]
      rintro e w1 ⟨rfl, hww⟩
      have hww2 := hww.symm
      clear hww
      subst hww2
      cases m
      · have HR2 : Hid (R = false) := Lib.hid (by rw [← HR.out]; exact safe_no (mode_not Hc.out Hm.out))
        go_wp2
        go_ret
        exact ⟨ret_bool HR2.out.symm, HB.out⟩
      · clear c0 c1
        go_wp2
        go_loopg [5, 6] i (fun g2 s5 _ wx => ∃ j : Nat, s5 = .int .i64 (j : Int) ∧ j + g2 = i ∧ Hid (Bes l c j) ∧ Hid (Below w1.heap.size w1 wx))
        case atStart => exact ⟨0, rfl, by omega, Lib.hid (bes_zero l c), Lib.hid (Below.refl _ _)⟩
        case round =>
          obtain ⟨j, rfl, hg2, HBe, HB2⟩ := hrel
          by_cases hj : j < i
          · have hj' : (j : Int) < (i : Int) := by omega
            have i4 : (i : Int) < (n : Int) := by omega
            have i5 : (j : Int) < (n : Int) := by omega
            obtain ⟨x, hx⟩ : ∃ x, l[j]? = some x := ⟨_, List.getElem?_eq_getElem (by rw [Hl.out.length]; omega)⟩
            have Hx := Lib.hid hx
            have hgr : g < wr.heap.size := Nat.lt_of_lt_of_le hg0 HB2.out.size
            have k0 : ∀ y : In (Abv wr), y.u.cell? ⟨g, off + i * 2, none⟩ = some (.int .i64 c.1) := fun y => (y.is.cell (p := ⟨g, off + i * 2, none⟩) hgr).trans ((HB2.out.cell (p := ⟨g, off + i * 2, none⟩) hg0).trans (Hcells.out i c Hc.out).1)
            have k1 : ∀ y : In (Abv wr), y.u.cell? ⟨g, off + i * 2 + 1, none⟩ = some (.int .i64 c.2) := fun y => (y.is.cell (p := ⟨g, off + i * 2 + 1, none⟩) hgr).trans ((HB2.out.cell (p := ⟨g, off + i * 2 + 1, none⟩) hg0).trans (Hcells.out i c Hc.out).2)
            have m0 : ∀ y : In (Abv wr), y.u.cell? ⟨g, off + j * 2, none⟩ = some (.int .i64 x.1) := fun y => (y.is.cell (p := ⟨g, off + j * 2, none⟩) hgr).trans ((HB2.out.cell (p := ⟨g, off + j * 2, none⟩) hg0).trans (Hcells.out j x hx).1)
            have m1 : ∀ y : In (Abv wr), y.u.cell? ⟨g, off + j * 2 + 1, none⟩ = some (.int .i64 x.2) := fun y => (y.is.cell (p := ⟨g, off + j * 2 + 1, none⟩) hgr).trans ((HB2.out.cell (p := ⟨g, off + j * 2 + 1, none⟩) hg0).trans (Hcells.out j x hx).2)
            clear hx
            obtain ⟨f, Hf⟩ : ∃ f, Hid (fitB c.2 x.2 = f) := ⟨_, Lib.hid rfl⟩
            obtain ⟨q, Hq⟩ : ∃ f, Hid ((c.1 == x.1) = f) := ⟨_, Lib.hid rfl⟩
            go_wp2
            refine wp_region_mix (by kernel_rfl) (Cls (Abv wr)) [(0, 0), (1, 0), (2, 0), (3, 0), (4, 0), (5, 0), (6, 0), (7, 0), (8, 0), (9, 0), (10, 1), (11, 0)] (by kernel_rfl) (cls (Below.refl _ _).drew) ?_
            repeat (refine mix0 rfl (fun K hK => ?_); go_simp; refine hK _ ?_; clear hK K)
            refine mix1 rfl (fun K hK => ?_)
            go_simp
            refine (FitR_any _ c.2 x.2).mono ?_
            rw [Hf.out]
            rintro e w2 ⟨rfl, rfl⟩
            refine ⟨_, rfl, hK _ _ (cls (Below.refl _ _).drew) ?_⟩
            clear hK K
            repeat (refine mix0 rfl (fun K hK => ?_); go_simp; refine hK _ ?_; clear hK K)
            refine mixEnd ?_
            cases q
            · cases f
              · have HR2 : Hid (R = false) := Lib.hid (by rw [← HR.out]; exact safe_no (bes_not Hc.out Hx.out hj (fun h => by have := h.2; rw [fit_comm, Hf.out] at this; cases this)))
                have hq := Hq.out
                go_wp2
                refine wp_region_mix (by kernel_rfl) (Cls (Abv wr)) [(0, 0), (1, 0), (2, 0), (3, 0), (4, 0), (5, 0), (6, 0), (7, 0), (8, 0), (9, 0), (10, 0), (11, 0), (12, 0), (13, 0), (14, 0)] (by kernel_rfl) (cls (Below.refl _ _).drew.drew) ?_
                repeat (refine mix0 rfl (fun K hK => ?_); go_simp; refine hK _ ?_; clear hK K)
                refine mixEnd ?_
                clear k0 k1 m0 m1 i4 i5
                go_wp2
                go_ret
                exact ⟨ret_bool HR2.out.symm, bnext HB.out (bnext HB2.out (Below.refl _ _).drew.drew)⟩
              · have HBe2 : Hid (Bes l c (j + 1)) := Lib.hid (bes_next HBe.out Hx.out ⟨fun e => by have := Hq.out; rw [e] at this; simp at this, by rw [fit_comm]; exact Hf.out⟩)
                have HB3 : Hid (Below w1.heap.size w1 wr.drew.drew) := Lib.hid HB2.out.drew.drew
                have hq := Hq.out
                go_wp2
                refine wp_region_mix (by kernel_rfl) (Cls (Abv wr)) [(0, 0), (1, 0), (2, 0), (3, 0), (4, 0), (5, 0), (6, 0), (7, 0), (8, 0), (9, 0), (10, 0), (11, 0), (12, 0), (13, 0), (14, 0)] (by kernel_rfl) (cls (Below.refl _ _).drew.drew) ?_
                repeat (refine mix0 rfl (fun K hK => ?_); go_simp; refine hK _ ?_; clear hK K)
                refine mixEnd ?_
                clear k0 k1 m0 m1 i4 i5
                go_wp2
                go_roundg (gk - 1)
                case rel => exact ⟨j + 1, by go_num, by omega, HBe2, HB3⟩
                case measure => omega
            · have HR2 : Hid (R = false) := Lib.hid (by rw [← HR.out]; exact safe_no (bes_not Hc.out Hx.out hj (fun h => h.1 (by simpa using (eq_of_beq Hq.out).symm))))
              have hq := Hq.out
              go_wp2
              refine wp_region_mix (by kernel_rfl) (Cls (Abv wr)) [(0, 0), (1, 0), (2, 0), (3, 0), (4, 0), (5, 0), (6, 0), (7, 0), (8, 0), (9, 0), (10, 0), (11, 0), (12, 0), (13, 0), (14, 0)] (by kernel_rfl) (cls (Below.refl _ _).drew.drew) ?_
              repeat (refine mix0 rfl (fun K hK => ?_); go_simp; refine hK _ ?_; clear hK K)
              refine mixEnd ?_
              clear k0 k1 m0 m1 i4 i5
              go_wp2
              go_ret
              exact ⟨ret_bool HR2.out.symm, bnext HB.out (bnext HB2.out (Below.refl _ _).drew.drew)⟩
          · obtain rfl : j = i := by omega
            have HS2 := Lib.hid (bes_all Hc.out HS.out Hm.out HBe.out)
            have HB3 := Lib.hid (bnext HB.out HB2.out)
            go_wp2
            go_roundg g1
            case rel => exact ⟨j + 1, by go_num, by omega, HS2, HB3⟩
            case measure => omega
    · obtain rfl : i = n := by omega
      have HR2 : Hid (R = true) := Lib.hid (by
        rw [← HR.out]
        have h := HS.out
        rw [List.take_of_length_le (by rw [Hl.out.length]; omega)] at h
        simpa [safeB] using h)
      go_wp2
      go_ret
      exact ⟨ret_bool HR2.out.symm, HB.out⟩
end Go.Proofs.Ytbeoigkjlgimdaa
