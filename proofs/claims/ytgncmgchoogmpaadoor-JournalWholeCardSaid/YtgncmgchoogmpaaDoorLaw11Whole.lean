/- What was written is found, if the head is below it, and only once its mark lies there; done, it is found no more. -/
import Derived.Test.YtgncmgchoogmpaaDoorJx11
import Derived.Test.YtgncmgchoogmpaaDoorJy11
import Derived.Test.YtgncmgchoogmpaaDoorJy11
namespace Go.Proofs.YtgncmgchoogmpaaDoor.journalWhole
open Go.RowKit Go.ChangeShapes Go.WideShapes Go.ChangeAt
open Go.ChangeMaps (open_string shut_string)

/-- The journal's places lie in block q, and but there nothing has turned. -/
structure Pl (w5 wx : World) (q : Nat) (rg : List (List UInt8)) (H M : List UInt8) : Prop where
  row : RG wx 1 encS (.slice (some ⟨q, 0, none⟩) 40 40) rg
  mod : Mod (· = q) w5 wx
  rgn : Rgn rg H M
theorem Pl.call {w5 wx wy : World} {q : Nat} {rg : List (List UInt8)} {H M : List UInt8} (h : Pl w5 wx q rg H M) (b : Below wx.heap.size wx wy) : Pl w5 wy q rg H M :=
  ⟨h.row.below b, h.mod.trans ((Mod.of_below (S := fun _ => False) b).mono (fun _ _ h => h.elim)), h.rgn⟩
theorem Pl.cell {w5 wx : World} {q : Nat} {rg : List (List UInt8)} {H M : List UInt8} (h : Pl w5 wx q rg H M) {k : Nat} (hk : k < 40) : ∃ s, wx.cell? ⟨q, k, none⟩ = some (.string (str s)) ∧ wx.frozen? ⟨q, k, none⟩ = false := by
  have hl := h.rgn.len
  have e := List.getElem?_eq_getElem (l := rg) (i := k) (by omega)
  have := h.row.cell encS_ok e (j := 0) (u := .string (str (rg[k]'(by omega)))) rfl
  simp only [Nat.mul_one, Nat.add_zero, Nat.zero_add] at this
  exact ⟨_, this⟩
theorem Pl.setRow {w5 wx : World} {q : Nat} {rg : List (List UInt8)} {H M : List UInt8} (h : Pl w5 wx q rg H M) {k : Nat} (hk : k < 40) (s : List UInt8) : RG (wx.setCell ⟨q, k, none⟩ (.string (str s))) 1 encS (.slice (some ⟨q, 0, none⟩) 40 40) (rg.set k s) := by
  have := RG.set encS_ok h.row (i := k) (by rw [h.rgn.len]; exact hk) s
  rw [Nat.zero_add, Nat.mul_one] at this
  exact this
theorem Pl.put {w5 wx : World} {q : Nat} {rg : List (List UInt8)} {H M : List UInt8} (h : Pl w5 wx q rg H M) {k : Nat} (h1 : 1 ≤ k) (h2 : k ≤ 38) {s : List UInt8} (hs : s.length ≤ 600) : Pl w5 (wx.setCell ⟨q, k, none⟩ (.string (str s))) q (rg.set k s) H M :=
  ⟨h.setRow (by omega) s, h.mod.set1 _, h.rgn.put h1 h2 hs⟩
theorem Pl.setH {w5 wx : World} {q : Nat} {rg : List (List UInt8)} {H M : List UInt8} (h : Pl w5 wx q rg H M) {s : List UInt8} (hs : s.length ≤ 600) : Pl w5 (wx.setCell ⟨q, 0, none⟩ (.string (str s))) q (rg.set 0 s) s M :=
  ⟨h.setRow (by omega) s, h.mod.set1 _, h.rgn.setH hs⟩
theorem Pl.setM {w5 wx : World} {q : Nat} {rg : List (List UInt8)} {H M : List UInt8} (h : Pl w5 wx q rg H M) {s : List UInt8} (hs : s.length ≤ 600) : Pl w5 (wx.setCell ⟨q, 39, none⟩ (.string (str s))) q (rg.set 39 s) H s :=
  ⟨h.setRow (by omega) s, h.mod.set1 _, h.rgn.setM hs⟩
theorem Pl.strs {w5 wx : World} {q : Nat} {rg : List (List UInt8)} {H M : List UInt8} (h : Pl w5 wx q rg H M) : IsStrs wx (some ⟨q, 0, none⟩) 40 rg := (h.row.is encS_ok).1.strs h.rgn.max
theorem Pl.isG {w5 wx : World} {q : Nat} {rg : List (List UInt8)} {H M : List UInt8} (h : Pl w5 wx q rg H M) {A : Option Addr} {n : Nat} {l : List Ch} (g : IsG w5 2 encC A n l) (ha : ∀ g off, A = some ⟨g, off, none⟩ → 0 < n → g ≠ q) : IsG wx 2 encC A n l :=
  g.later h.mod (fun g off e h0 hq => ha g off e h0 hq)
theorem mk40 (w : World) : (Instr.makeSlice 29 (.int .i64 40) (.int .i64 40)).run Tryd.prog w = .ok (.slice (some ⟨w.heap.size, 0, none⟩) 40 40) (w.alloc (.cells (madeCells (encS []).toArray 40) 9)) := by
  obtain ⟨i0, hi, hz0, hz1, hz2⟩ := info_parts stInfo0
  have h := run_make (P := Tryd.prog) w 29 9 i0 (.string ⟨#[]⟩) Tryd.underlying29 hi hz0 .i64 .i64 40 40 (by omega) (Int.le_refl _) (by rw [hz2]; omega) (by omega)
  simp only [hz1] at h
  exact h
set_option maxRecDepth 100000 in
set_option maxHeartbeats 4000000 in
theorem walk (x0 : Option Addr) (len0 cap0 : Nat) (l0 : List Sp) (x1 : Option Addr) (len1 cap1 : Nat) (l1 : List Sp) (a2 b2 : Int) (w : World) (h0 : IsG w 3 encP x0 len0 l0) (_ : ∀ s ∈ l0, wfP s) (h1 : IsG w 3 encP x1 len1 l1) (_ : ∀ s ∈ l1, wfP s)
    (_ : (Lit.int .i64 a2).wf = true) (h2 : (Lit.int .i64 b2).wf = true) (hT : Tab w) :
    Calls Tryd.prog 5 #[.slice x0 len0 cap0, .slice x1 len1 cap1, .agg #[.int .i64 a2, .int .i64 b2]] w fun e w' => e = .returned (.bool true) ∧ Below w.heap.size w w' := by
  have HT := Lib.hid hT
  have H0 := Lib.hid h0
  have H1 := Lib.hid h1
  have hb2 : -9223372036854775808 ≤ b2 ∧ b2 ≤ 9223372036854775807 := by
    have e1 : IntKind.i64.min = -9223372036854775808 := by decide
    have h3 : IntKind.i64.min ≤ b2 ∧ b2 ≤ 9223372036854775807 := by simpa [Lit.wf] using h2
    rw [e1] at h3
    exact h3
  obtain ⟨hb2a, hb2b⟩ := hb2
  clear hT h0 h1 h2
  obtain ⟨n, Hn, hn39⟩ := and_mask a2 549755813887 (by omega)
  have Hn39 := Lib.hid hn39
  have hn := Hn.out
  rw [show ((549755813887 : Nat) : Int) = 549755813887 from rfl] at hn
  obtain ⟨w0, HW0⟩ : ∃ x, Hid (w.alloc (.cells #[.int .i64 a2, .int .i64 b2] 44) = x) := ⟨_, Lib.hid rfl⟩
  obtain ⟨p0, Hp0⟩ : ∃ x, Hid (w.heap.size = x) := ⟨_, Lib.hid rfl⟩
  have B0 : Hid (Below w.heap.size w w0) := Lib.hid (by rw [← HW0.out]; exact balloc (Below.refl _ _) _)
  have o0 : Hid (w0.cell? ⟨p0, 0, none⟩ = some (.int .i64 a2)) := Lib.hid (by rw [← HW0.out, ← Hp0.out]; simp [go_sem])
  have o1 : Hid (w0.cell? ⟨p0, 1, none⟩ = some (.int .i64 b2)) := Lib.hid (by rw [← HW0.out, ← Hp0.out]; simp [go_sem])
  go_enter Tryd.func5, Tryd.ntmps5
  go_wp2_with fail
  rw [HW0.out, Hp0.out]
  refine (awake_any _ (HT.out.below B0.out)).mono ?_
  rintro e w1 ⟨rfl, hb1⟩
  have B1 := Lib.hid (bnext B0.out hb1)
  have B01 := Lib.hid hb1
  clear hb1
  go_wp2_with fail
  refine (lrow_any x0 len0 cap0 l0 20 (by omega) w1 (H0.out.below B1.out)).mono ?_
  rintro e w2 ⟨v2, rfl, r2, n2, hb2'⟩
  have B2 := Lib.hid (bnext B1.out hb2')
  have B02 := Lib.hid (bnext B01.out hb2')
  obtain ⟨m, Hm⟩ : ∃ y, Hid (rowSp (l0.take 20) = y) := ⟨_, Lib.hid rfl⟩
  have hmr : Hid (rowB m = true) := Lib.hid (by rw [← Hm.out]; exact rowSp_row _)
  have hml : Hid (m.length ≤ 20) := Lib.hid (by rw [← Hm.out]; have := rowSp_length (l0.take 20); rw [List.length_take] at this; omega)
  rw [Hm.out] at r2
  obtain ⟨A, c, ev⟩ := r2.shape
  obtain ⟨lm, Hlm⟩ : ∃ y, Hid (m.length = y) := ⟨_, Lib.hid rfl⟩
  rw [Hlm.out] at ev
  subst ev
  have hlm : lm ≤ 20 := by have := hml.out; have := Hlm.out; omega
  have GM2 := Lib.hid (r2.is encC_ok).1
  have c0 := (B02.out.cell (p := ⟨p0, 0, none⟩) (lt_of_cell o0.out)).trans o0.out
  clear r2 n2 hb2' B01 H0
  rcases Nat.eq_zero_or_pos lm with hl0 | hl0
  · subst hl0
    go_wp2
    go_ret
    exact ⟨rfl, B2.out⟩
  · have hlI : ((lm : Int) == 0) = false := by simp; omega
    have hm0 : Hid (m ≠ []) := Lib.hid (fun e => by have := Hlm.out; rw [e] at this; simp at this; omega)
    have hE : Hid (recE 40 ((n + 2 : Nat) : Int) m = 0) := Lib.hid (recE_of (by omega) (by omega) hm0.out hmr.out (by rw [Hlm.out]; unfold roomI; omega))
    have hw2 : IntKind.i64.wrap ((n : Int) + 2) = ((n + 2 : Nat) : Int) := by rw [IntWalk.i64_in _ (by omega)]; omega
    obtain ⟨N2, HN2⟩ : ∃ y, Hid (n + 2 = y) := ⟨_, Lib.hid rfl⟩
    rw [HN2.out] at hw2 hE
    have Hw2 := Lib.hid hw2
    clear hn39
    go_wp2_with fail
    refine (jRecord_yes 40 (N2 : Int) A lm c m w2 GM2.out hE.out (HT.out.below B2.out) (by omega)).mono ?_
    rw [Int.toNat_natCast, show (40 : Int) - 1 = 39 from rfl]
    obtain ⟨ts, Hts⟩ : ∃ y, Hid (textsS N2 m = y) := ⟨_, Lib.hid rfl⟩
    obtain ⟨MK, HMK⟩ : ∃ y, Hid (markS N2 m = y) := ⟨_, Lib.hid rfl⟩
    rw [Hts.out, HMK.out]
    rintro e w3 ⟨B, d, rfl, r3, n3, hb3⟩
    have GM3 := Lib.hid (GM2.out.below hb3)
    have B3 := Lib.hid (bnext B2.out hb3)
    have B03 := Lib.hid (bnext B02.out hb3)
    have GB3 := Lib.hid (r3.is encC_ok).1
    clear r3 n3 hb3 hE GM2 c0
    obtain ⟨w4, HW4⟩ : ∃ y, Hid (w3.alloc (.cells #[.int .i64 39, .string (str MK)] 32) = y) := ⟨_, Lib.hid rfl⟩
    obtain ⟨p4, Hp4⟩ : ∃ y, Hid (w3.heap.size = y) := ⟨_, Lib.hid rfl⟩
    have B34 : Hid (Below w3.heap.size w3 w4) := Lib.hid (by rw [← HW4.out]; exact balloc (Below.refl _ _) _)
    have K4 : Hid (ChAt w4 p4 (39, MK)) := Lib.hid (by rw [← HW4.out, ← Hp4.out]; exact ChAt.new w3 (39, MK) _)
    have GM4 := Lib.hid (GM3.out.below B34.out)
    have GB4 := Lib.hid (GB3.out.below B34.out)
    have B4 := Lib.hid (bnext B3.out B34.out)
    have B04 := Lib.hid (bnext B03.out B34.out)
    obtain ⟨w5, HW5⟩ : ∃ y, Hid (w4.alloc (.cells (madeCells (encS []).toArray 40) 9) = y) := ⟨_, Lib.hid rfl⟩
    obtain ⟨q, Hq⟩ : ∃ y, Hid (w4.heap.size = y) := ⟨_, Lib.hid rfl⟩
    have B45 : Hid (Below w4.heap.size w4 w5) := Lib.hid (by rw [← HW5.out]; exact balloc (Below.refl _ _) _)
    have R5 : Hid (RG w5 1 encS (.slice (some ⟨q, 0, none⟩) 40 40) (List.replicate 40 [])) := Lib.hid (by rw [← HW5.out, ← Hq.out]; exact RG.made encS_ok [] w4 40 (by omega) _)
    have GM5 := Lib.hid (GM4.out.below B45.out)
    have GB5 := Lib.hid (GB4.out.below B45.out)
    have K5 := Lib.hid (K4.out.below B45.out)
    have B5 := Lib.hid (bnext B4.out B45.out)
    have B05 := Lib.hid (bnext B04.out B45.out)
    have hqw : Hid (w.heap.size ≤ q) := Lib.hid (by have := B4.out.size; have := Hq.out; omega)
    have hp4q : Hid (p4 < q) := Lib.hid (by have := K4.out.lt; have := Hq.out; omega)
    have hAq : Hid (∀ g off, A = some ⟨g, off, none⟩ → 0 < lm → g ≠ q) := Lib.hid (fun g off e h => by
      obtain ⟨g', off', e', hg, _⟩ := GM4.out.cells h
      have : g = g' := congrArg Addr.block (Option.some.inj (e.symm.trans e'))
      have := Hq.out
      omega)
    have hBq : Hid (∀ g off, B = some ⟨g, off, none⟩ → 0 < lm + 1 → g ≠ q) := Lib.hid (fun g off e h => by
      obtain ⟨g', off', e', hg, _⟩ := GB4.out.cells h
      have : g = g' := congrArg Addr.block (Option.some.inj (e.symm.trans e'))
      have := Hq.out
      omega)
    have hp0q : Hid (p0 < q) := Lib.hid (by have := lt_of_cell o0.out; have := B04.out.size; have := Hq.out; omega)
    have hmk := mk40
    go_wp2_with fail
    rw [HW4.out, HW5.out, Hp4.out, show p4 + 1 = q by have h1 := Hq.out; have h2 := Hp4.out; rw [← HW4.out] at h1; simp at h1; omega]
    clear hmk HW4 HW5 Hq GM4 GB4 K4 B34 B45 B04 B4 B3 GB3 GM3 B03 hw2
    go_loopw [14] (fun s wx => ∃ i : Nat, i ≤ 40 ∧ s = .int .i64 i ∧ Hid (RG wx 1 encS (.slice (some ⟨q, 0, none⟩) 40 40) (List.replicate i (secS 0) ++ List.replicate (40 - i) [])) ∧ Hid (Mod (· = q) w5 wx)) (fun s _ => 40 - (intOf s).toNat)
    case atStart => exact ⟨0, Nat.zero_le _, rfl, R5, Lib.hid (Mod.refl _ _)⟩
    case round =>
      obtain ⟨i, hi, rfl, HRi, HMi⟩ := hrel
      by_cases hlt : i < 40
      · have hiI : (i : Int) < 40 := by omega
        go_wp2_with fail
        refine (sector_any _ _).mono ?_
        rintro e w6 ⟨rfl, hb6⟩
        have M6 : Hid (Mod (· = q) w5 w6) := Lib.hid (HMi.out.trans ((Mod.of_below (S := fun _ => False) hb6).mono (fun _ _ h => h.elim)))
        have R6 := Lib.hid (HRi.out.below hb6)
        clear hb6
        have hrep : (List.replicate i (secS 0) ++ List.replicate (40 - i) [])[i]? = some [] := by
          rw [List.getElem?_append_right (by simp), List.length_replicate, Nat.sub_self, List.getElem?_replicate, if_pos (by omega)]
        obtain ⟨d0, f0⟩ := R6.out.cell encS_ok hrep (j := 0) (u := .string (str [])) rfl
        simp only [Nat.mul_one, Nat.add_zero, Nat.zero_add] at d0 f0
        have R7 : Hid (RG (w6.setCell ⟨q, i, none⟩ (.string (str (secS 0)))) 1 encS (.slice (some ⟨q, 0, none⟩) 40 40) (List.replicate (i + 1) (secS 0) ++ List.replicate (40 - (i + 1)) [])) := Lib.hid (by
          have h := RG.set encS_ok R6.out (i := i) (by simp; omega) (secS 0)
          rw [List.set_append_right _ _ (by simp), List.length_replicate, Nat.sub_self, show 40 - i = (40 - (i + 1)) + 1 by omega, List.replicate_succ, List.set_cons_zero] at h
          rw [List.replicate_succ', List.append_assoc, List.singleton_append]
          rw [Nat.zero_add, Nat.mul_one] at h
          exact h)
        have M7 : Hid (Mod (· = q) w5 (w6.setCell ⟨q, i, none⟩ (.string (str (secS 0))))) := Lib.hid (M6.out.set1 _)
        clear hrep
        go_wp2
        go_roundw
        case rel => exact ⟨i + 1, by omega, by go_num, R7, M7⟩
        case measure => simp [intOf]; omega
      · obtain rfl : i = 40 := by omega
        rw [Nat.sub_self, List.replicate_zero, List.append_nil] at HRi
        obtain ⟨rg, Hrg⟩ : ∃ y, Hid (List.replicate 40 (secS 0) = y) := ⟨_, Lib.hid rfl⟩
        have hR0 : Hid (Rgn rg (secS 0) (secS 0)) := Lib.hid (by rw [← Hrg.out]; exact Rgn.start)
        rw [Hrg.out] at HRi
        have hw1 : IntKind.i64.wrap ((n : Int) + 1) = ((n + 1 : Nat) : Int) := by rw [IntWalk.i64_in _ (by have := Hn39.out; omega)]; omega
        obtain ⟨N1, HN1⟩ : ∃ y, Hid (n + 1 = y) := ⟨_, Lib.hid rfl⟩
        rw [HN1.out] at hw1
        have hcl : Hid (headS (clampD (N1 : Int)) = headS N1) := Lib.hid (by rw [clampD_of N1 (by have := HN1.out; have := Hn39.out; omega)])
        clear Hrg
        go_wp2_with fail
        refine (jHead_any _ _).mono ?_
        rw [hcl.out]
        obtain ⟨HH, HHH⟩ : ∃ y, Hid (headS N1 = y) := ⟨_, Lib.hid rfl⟩
        rw [HHH.out]
        rintro e w6 ⟨rfl, hb6⟩
        have hHl : HH.length ≤ 600 := by rw [← HHH.out, headS_length]; omega
        have M6 : Hid (Mod (· = q) w5 w6) := Lib.hid (HMi.out.trans ((Mod.of_below (S := fun _ => False) hb6).mono (fun _ _ h => h.elim)))
        have R6 := Lib.hid (HRi.out.below hb6)
        clear hb6 HRi HMi
        have P6 : Hid (Pl w5 w6 q rg (secS 0) (secS 0)) := Lib.hid ⟨R6.out, M6.out, hR0.out⟩
        obtain ⟨z0, d0, f0⟩ := P6.out.cell (k := 0) (by omega)
        obtain ⟨w7, HW7⟩ : ∃ y, Hid (w6.setCell ⟨q, 0, none⟩ (.string (str HH)) = y) := ⟨_, Lib.hid rfl⟩
        have P7 : Hid (Pl w5 w7 q (rg.set 0 HH) HH (secS 0)) := Lib.hid (by rw [← HW7.out]; exact P6.out.setH hHl)
        have B7 : Hid (Below w.heap.size w w7) := Lib.hid (bmod B5.out P7.out.mod hqw.out)
        clear R6 M6 hR0
        go_wp2_with fail
        rw [HW7.out]
        clear d0 f0 HW7 P6
        refine (lrow_any x1 len1 cap1 l1 20 (by omega) w7 (H1.out.below B7.out)).mono ?_
        obtain ⟨o, Ho⟩ : ∃ y, Hid (rowSp (l1.take 20) = y) := ⟨_, Lib.hid rfl⟩
        have hor : Hid (rowB o = true) := Lib.hid (by rw [← Ho.out]; exact rowSp_row _)
        have hol : Hid (o.length ≤ 20) := Lib.hid (by rw [← Ho.out]; have := rowSp_length (l1.take 20); rw [List.length_take] at this; omega)
        rw [Ho.out]
        rintro e w8 ⟨v8, rfl, r8, n8, hb8⟩
        obtain ⟨Ao, co, ev⟩ := r8.shape
        obtain ⟨lo, Hlo⟩ : ∃ y, Hid (o.length = y) := ⟨_, Lib.hid rfl⟩
        rw [Hlo.out] at ev
        subst ev
        have hlo : lo ≤ 20 := by have := hol.out; have := Hlo.out; omega
        have GO8 := Lib.hid (r8.is encC_ok).1
        have P8 := Lib.hid (P7.out.call hb8)
        have B8 := Lib.hid (bnext B7.out hb8)
        clear r8 n8 hb8 P7 B7 H1
        go_upto_if 82 with fail
        go_cut [19] (fun s wx => ∃ (rg : List (List UInt8)) (M : List UInt8), Hid (Pl w5 wx q rg HH M) ∧ Hid (Nomark M N1))
        case first =>
          rcases Nat.eq_zero_or_pos lo with hlo0 | hlo0
          · have hloI : ¬ (0 : Int) < (lo : Int) := by omega
            have hnm : Hid (Nomark (secS 0) N1) := Lib.hid (.inl rfl)
            clear hlo0
            go_wp2_with fail
            go_meet
            case rel => exact ⟨_, _, P8, hnm⟩
          · have hloI : (0 : Int) < (lo : Int) := by omega
            have hE : Hid (recE 40 (N1 : Int) o = 0) := Lib.hid (recE_of (by have := HN1.out; omega) (by have := HN1.out; have := Hn39.out; omega) (fun e => by have := Hlo.out; rw [e] at this; simp at this; omega) hor.out (by rw [Hlo.out]; unfold roomI; omega))
            go_wp2_with fail
            refine (jRecord_yes 40 (N1 : Int) Ao lo co o w8 GO8.out hE.out (HT.out.below B8.out) (by omega)).mono ?_
            rw [Int.toNat_natCast, show (40 : Int) - 1 = 39 from rfl]
            obtain ⟨tso, Hto⟩ : ∃ y, Hid (textsS N1 o = y) := ⟨_, Lib.hid rfl⟩
            obtain ⟨MO, HMO⟩ : ∃ y, Hid (markS N1 o = y) := ⟨_, Lib.hid rfl⟩
            rw [Hto.out, HMO.out]
            rintro e w9 ⟨Bo, co2, rfl, r9, n9, hb9⟩
            have P9 := Lib.hid (P8.out.call hb9)
            have B9 := Lib.hid (bnext B8.out hb9)
            have GO9 := Lib.hid (r9.is encC_ok).1
            have hBo : Hid (∀ g off, Bo = some ⟨g, off, none⟩ → g ≠ q) := Lib.hid (fun g off e h => by
              have h1 := n9 g (by rw [e]; rfl)
              have h2 := P8.out.row.lt (g := q) rfl
              omega)
            have hbig : Hid (q < w9.heap.size) := Lib.hid (P9.out.row.lt rfl)
            clear r9 n9 hb9
            obtain ⟨wa, HWa⟩ : ∃ y, Hid (w9.alloc (.cells #[.int .i64 39, .string (str MO)] 32) = y) := ⟨_, Lib.hid rfl⟩
            obtain ⟨pk, Hpk⟩ : ∃ y, Hid (w9.heap.size = y) := ⟨_, Lib.hid rfl⟩
            have hba : Hid (Below w9.heap.size w9 wa) := Lib.hid (by rw [← HWa.out]; exact balloc (Below.refl _ _) _)
            have Ka : Hid (ChAt wa pk (39, MO)) := Lib.hid (by rw [← HWa.out, ← Hpk.out]; exact ChAt.new w9 (39, MO) _)
            have Pa := Lib.hid (P9.out.call hba.out)
            have GOa := Lib.hid (GO9.out.below hba.out)
            have hpkq : Hid (pk ≠ q) := Lib.hid (by have := hbig.out; have := Hpk.out; omega)
            have htl : Hid (tso.length = lo + 1) := Lib.hid (by rw [← Hto.out, textsS, List.length_cons, List.length_map, Hlo.out])
            have hts : Hid (∀ s ∈ tso, s.length ≤ 600) := Lib.hid (fun s hs => by
              rw [← Hto.out, textsS] at hs
              rcases List.mem_cons.1 hs with rfl | hs
              · rw [firstS_length _ _ (by rw [Hlo.out]; omega)]; omega
              · obtain ⟨c, hc, rfl⟩ := List.mem_map.1 hs
                rw [(rowB_of hor.out c hc).2.2]
                omega)
            clear GO9 P9 hE
            go_wp2_with fail
            rw [HWa.out, Hpk.out]
            clear hlo0
            go_loopw [19] (fun s wx => ∃ i : Nat, i ≤ lo + 1 ∧ s = .int .i64 i ∧ ∃ rg, Hid (Pl w5 wx q rg HH (secS 0)) ∧ Hid (Mod (· = q) wa wx)) (fun s _ => lo + 1 - (intOf s).toNat)
            case atStart => exact ⟨0, Nat.zero_le _, rfl, _, Pa, Lib.hid (Mod.refl _ _)⟩
            case round =>
              obtain ⟨i, hi, rfl, rgi, HPi, HMi⟩ := hrel
              by_cases hlt : i < lo + 1
              · have hiI : (i : Int) < (lo : Int) + 1 := by omega
                have hwi : IntKind.i64.wrap ((1 : Int) + (i : Int)) = (1 : Int) + (i : Int) := IntWalk.i64_in _ (by omega)
                have hi40 : (1 : Int) + (i : Int) < 40 := by omega
                have hi0 : (0 : Int) ≤ (1 : Int) + (i : Int) := by omega
                have hin : ((1 : Int) + (i : Int)).toNat = 1 + i := by omega
                obtain ⟨z, hz⟩ : ∃ z, tso[i]? = some z := ⟨_, List.getElem?_eq_getElem (by have := htl.out; omega)⟩
                have hzl : Hid (z.length ≤ 600) := Lib.hid (hts.out z (List.mem_of_getElem? hz))
                have GOi := GOa.out.later HMi.out (fun g off e _ h => hBo.out g off e h)
                obtain ⟨g, off, rfl, hg, hc⟩ := GOi.cells (by omega)
                have t1 := hc i _ 1 (.string (str z)) (numbered_get tso 1 i z hz) rfl
                obtain ⟨z0, d0, f0⟩ := HPi.out.cell (k := 1 + i) (by omega)
                have P7 : Hid (Pl w5 (wr.setCell ⟨q, 1 + i, none⟩ (.string (str z))) q (rgi.set (1 + i) z) HH (secS 0)) := Lib.hid (HPi.out.put (by omega) (by omega) hzl.out)
                have M7 : Hid (Mod (· = q) wa (wr.setCell ⟨q, 1 + i, none⟩ (.string (str z)))) := Lib.hid (HMi.out.set1 _)
                clear hc hz hg GOi
                go_wp2
                go_roundw
                case rel => exact ⟨i + 1, by omega, by go_num, _, P7, M7⟩
                case measure => simp [intOf]; omega
              · obtain rfl : i = lo + 1 := by omega
                have hiI : ¬ ((lo + 1 : Nat) : Int) < (lo : Int) + 1 := by omega
                have Kb := Ka.out.later HMi.out (fun e => hpkq.out e)
                have k0 := Kb.c0
                have k1 := Kb.c1
                have hMl : MO.length ≤ 600 := by rw [← HMO.out, markS_length]; omega
                obtain ⟨z0, d0, f0⟩ := HPi.out.cell (k := 39) (by omega)
                have P7 : Hid (Pl w5 (wr.setCell ⟨q, 39, none⟩ (.string (str MO))) q (rgi.set 39 MO) HH MO) := Lib.hid (HPi.out.setM hMl)
                have hnm : Hid (Nomark MO N1) := Lib.hid (.inr ⟨o, HMO.out.symm⟩)
                clear Kb
                go_wp2_with fail
                go_meet
                case rel => exact ⟨_, _, P7, hnm⟩
        case rest =>
        obtain ⟨rg1, M1, P9, hnm⟩ := hcut
        have o1c := P9.out.mod.cell (p := ⟨p0, 1, none⟩) (Nat.lt_of_lt_of_le (lt_of_cell o1.out) B05.out.size) (by have := hp0q.out; show p0 ≠ q; omega)
        have o1d := (B05.out.cell (p := ⟨p0, 1, none⟩) (lt_of_cell o1.out)).trans o1.out
        rw [o1d] at o1c
        clear o1d P8 B8
        have hng : IntKind.i64.wrap (b2 + 1) = b2 + 1 ∨ 9223372036854775807 ≤ b2 := by
          by_cases h : b2 < 9223372036854775807
          · exact .inl (IntWalk.i64_in _ (by omega))
          · exact .inr (by omega)
        have Hng := Lib.hid hng
        clear hng
        go_upto_if 133 with fail
        go_cut [20] (fun s wx => ∃ v : Nat, Hid (v ≤ 9223372036854775807) ∧ s = .int .i64 v ∧ wx = wc)
        case first =>
          by_cases hneg : b2 < 0
          · have hw3 : IntKind.i64.wrap (b2 + 1) = b2 + 1 := IntWalk.i64_in _ (by omega)
            have hw4 : IntKind.i64.wrap (-(b2 + 1)) = -(b2 + 1) := IntWalk.i64_in _ (by omega)
            have hvv : Hid ((-(b2 + 1)).toNat ≤ 9223372036854775807) := Lib.hid (by omega)
            go_wp2_with fail
            go_meet
            case rel => exact ⟨(-(b2 + 1)).toNat, hvv, by congr 1; omega, rfl⟩
          · have hvv : Hid (b2.toNat ≤ 9223372036854775807) := Lib.hid (by omega)
            go_wp2_with fail
            go_meet
            case rel => exact ⟨b2.toNat, hvv, by congr 1; omega, rfl⟩
        case rest =>
        obtain ⟨v, hv, rfl, rfl⟩ := hcut
        obtain ⟨k, hk, Hk⟩ : ∃ k : Nat, (v : Int).tmod ((lm : Int) + 1 + 1) = (k : Int) ∧ Hid (k ≤ lm + 1) := by
          refine ⟨v % (lm + 2), ?_, Lib.hid (by have := Nat.mod_lt v (show 0 < lm + 2 by omega); omega)⟩
          rw [show (lm : Int) + 1 + 1 = ((lm + 2 : Nat) : Int) by omega]
          rfl
        have hkle : k ≤ lm + 1 := Hk.out
        have htl : Hid (ts.length = lm + 1) := Lib.hid (by rw [← Hts.out, textsS, List.length_cons, List.length_map, Hlm.out])
        have hts : Hid (∀ s ∈ ts, s.length ≤ 600) := Lib.hid (fun s hs => by
          rw [← Hts.out, textsS] at hs
          rcases List.mem_cons.1 hs with rfl | hs
          · rw [firstS_length _ _ (by rw [Hlm.out]; omega)]; omega
          · obtain ⟨c, hc, rfl⟩ := List.mem_map.1 hs
            rw [(rowB_of hmr.out c hc).2.2]
            omega)
        have hw4 : IntKind.i64.wrap ((lm : Int) + 1 + 1) = (lm : Int) + 1 + 1 := IntWalk.i64_in _ (by omega)
        have hnz : ((lm : Int) + 1 + 1 == 0) = false := by simp; omega
        go_wp2_with fail
        clear hk hw4 hnz
        go_loopw [21] (fun s wx => ∃ i : Nat, i ≤ k ∧ s = .int .i64 i ∧ ∃ rg, Hid (Pl w5 wx q rg HH M1)) (fun s _ => k - (intOf s).toNat)
        case atStart => exact ⟨0, Nat.zero_le _, rfl, _, P9⟩
        case round =>
        obtain ⟨i, hi, rfl, rgi, HPi⟩ := hrel
        by_cases hlt : i < k
        · have hiI : (i : Int) < (k : Int) := by omega
          have hwi : IntKind.i64.wrap ((1 : Int) + (i : Int)) = (1 : Int) + (i : Int) := IntWalk.i64_in _ (by omega)
          have hi40 : (1 : Int) + (i : Int) < 40 := by omega
          have hi0 : (0 : Int) ≤ (1 : Int) + (i : Int) := by omega
          have hin : ((1 : Int) + (i : Int)).toNat = 1 + i := by omega
          have hil : (i : Int) < (lm : Int) + 1 := by omega
          obtain ⟨z, hz⟩ : ∃ z, ts[i]? = some z := ⟨_, List.getElem?_eq_getElem (by have := htl.out; omega)⟩
          have hzl : Hid (z.length ≤ 600) := Lib.hid (hts.out z (List.mem_of_getElem? hz))
          obtain ⟨g, off, rfl, hg, hc⟩ := (HPi.out.isG GB5.out hBq.out).cells (by omega)
          have t1 := hc i _ 1 (.string (str z)) (numbered_get ts 1 i z hz) rfl
          obtain ⟨z0, d0, f0⟩ := HPi.out.cell (k := 1 + i) (by omega)
          have P7 : Hid (Pl w5 (wr.setCell ⟨q, 1 + i, none⟩ (.string (str z))) q (rgi.set (1 + i) z) HH M1) := Lib.hid (HPi.out.put (by omega) (by omega) hzl.out)
          clear hc hz hg
          go_wp2
          go_roundw
          case rel => exact ⟨i + 1, by omega, by go_num, _, P7⟩
          case measure => simp [intOf]; omega
        · obtain rfl : i = k := by omega
          have hiI : ¬ (i : Int) < (i : Int) := by omega
          clear hkle Hk
          have hN40 : Hid (N1 ≤ 1099511627776) := Lib.hid (by have := HN1.out; have := Hn39.out; omega)
          go_wp2_with fail
          refine (jScan_any _ 40 40 rgi wr HPi.out.strs (by omega) (HT.out.below (bmod B5.out HPi.out.mod hqw.out))).mono ?_
          rintro e wd ⟨s1, Bs1, ms1, ds1, ls1, ok1, rfl, hr1, _, _, _, _, hb1⟩
          obtain rfl : ok1 = false := noRec (by rw [HHH.out]; exact HPi.out.rgn) hN40.out hnm.out hr1
          have Pd := Lib.hid (HPi.out.call hb1)
          clear hr1 hb1 HPi P9
          go_wp2_with fail
          go_loopw [25] (fun s wx => ∃ i : Nat, i ≤ lm + 1 ∧ s = .int .i64 i ∧ ∃ rg, Hid (Pl w5 wx q rg HH M1) ∧ Hid (∀ j z, j < i → ts[j]? = some z → rg.getD (1 + j) [] = z)) (fun s _ => lm + 1 - (intOf s).toNat)
          case atStart => exact ⟨0, Nat.zero_le _, rfl, _, Pd, Lib.hid (fun j z h => by omega)⟩
          case round =>
          obtain ⟨i2, hi2, rfl, rgj, HPj, HLj⟩ := hrel
          by_cases hlt2 : i2 < lm + 1
          · have hiI2 : (i2 : Int) < (lm : Int) + 1 := by omega
            have hwi : IntKind.i64.wrap ((1 : Int) + (i2 : Int)) = (1 : Int) + (i2 : Int) := IntWalk.i64_in _ (by omega)
            have hi40 : (1 : Int) + (i2 : Int) < 40 := by omega
            have hi0 : (0 : Int) ≤ (1 : Int) + (i2 : Int) := by omega
            have hin : ((1 : Int) + (i2 : Int)).toNat = 1 + i2 := by omega
            obtain ⟨z, hz⟩ : ∃ z, ts[i2]? = some z := ⟨_, List.getElem?_eq_getElem (by have := htl.out; omega)⟩
            have hzl : Hid (z.length ≤ 600) := Lib.hid (hts.out z (List.mem_of_getElem? hz))
            obtain ⟨g, off, rfl, hg, hc⟩ := (HPj.out.isG GB5.out hBq.out).cells (by omega)
            have t1 := hc i2 _ 1 (.string (str z)) (numbered_get ts 1 i2 z hz) rfl
            obtain ⟨z0, d0, f0⟩ := HPj.out.cell (k := 1 + i2) (by omega)
            have P7 : Hid (Pl w5 (wr.setCell ⟨q, 1 + i2, none⟩ (.string (str z))) q (rgj.set (1 + i2) z) HH M1) := Lib.hid (HPj.out.put (by omega) (by omega) hzl.out)
            have L7 : Hid (∀ j y, j < i2 + 1 → ts[j]? = some y → (rgj.set (1 + i2) z).getD (1 + j) [] = y) := Lib.hid (fun j y hj hy => by
              rcases Nat.lt_succ_iff_lt_or_eq.1 hj with hj | rfl
              · rw [getD_set_ne (by omega)]; exact HLj.out j y hj hy
              · rw [getD_set_eq (by rw [HPj.out.rgn.len]; omega)]; rw [hz] at hy; exact Option.some.inj hy)
            clear hc hz hg
            go_wp2
            go_roundw
            case rel => exact ⟨i2 + 1, by omega, by go_num, _, P7, L7⟩
            case measure => simp [intOf]; omega
          · obtain rfl : i2 = lm + 1 := by omega
            have hiI2 : ¬ ((lm + 1 : Nat) : Int) < (lm : Int) + 1 := by omega
            go_wp2_with fail
            refine (jScan_any _ 40 40 rgj wr HPj.out.strs (by omega) (HT.out.below (bmod B5.out HPj.out.mod hqw.out))).mono ?_
            rintro e we ⟨s2, Bs2, ms2, ds2, ls2, ok2, rfl, hr2, _, _, _, _, hb2⟩
            obtain rfl : ok2 = false := noRec (by rw [HHH.out]; exact HPj.out.rgn) hN40.out hnm.out hr2
            have Pe := Lib.hid (HPj.out.call hb2)
            have Ke := K5.out.later Pe.out.mod (fun e => by have := hp4q.out; have : p4 = q := e; omega)
            have k0 := Ke.c0
            have k1 := Ke.c1
            have hMl : MK.length ≤ 600 := by rw [← HMK.out, markS_length]; omega
            obtain ⟨z0, d0, f0⟩ := Pe.out.cell (k := 39) (by omega)
            obtain ⟨wf, HWf⟩ : ∃ y, Hid (we.setCell ⟨q, 39, none⟩ (.string (str MK)) = y) := ⟨_, Lib.hid rfl⟩
            have Pf : Hid (Pl w5 wf q (rgj.set 39 MK) HH MK) := Lib.hid (by rw [← HWf.out]; exact Pe.out.setM hMl)
            have Lf : Hid (∀ j z, ts[j]? = some z → (rgj.set 39 MK).getD (1 + j) [] = z) := Lib.hid (fun j z hz => by
              have hj := (List.getElem?_eq_some_iff.1 hz).1
              have hj2 := htl.out
              rw [getD_set_ne (by omega)]
              exact HLj.out j z (by omega) hz)
            clear hr2 hb2 HPj HLj Ke
            go_wp2_with fail
            rw [HWf.out]
            clear d0 f0 k0 k1 HWf Pe
            have hN21 : Hid (N1 + 1 = N2) := Lib.hid (by have := HN1.out; have := HN2.out; omega)
            have hrec : Hid (IsRec (rgj.set 39 MK) N1 N2 m) := Lib.hid (by
              have h := Pf.out.rgn
              rw [← HHH.out, ← HMK.out] at h
              have ht := Hts.out
              rw [← hN21.out] at ht h ⊢
              rw [← HMK.out, ← hN21.out] at Lf
              rw [← HMK.out, ← hN21.out]
              exact wholeRec h (by have := HN1.out; have := Hn39.out; omega) hm0.out hml.out hmr.out (by rw [ht]; exact Lf.out))
            refine (jScan_any _ 40 40 _ wf Pf.out.strs (by omega) (HT.out.below (bmod B5.out Pf.out.mod hqw.out))).mono ?_
            rintro e wg ⟨s3, Bs3, ms3, ds3, ls3, ok3, rfl, hr3, gs3, _, _, _, hb3⟩
            obtain ⟨e1, e2, e3⟩ := hr3.eq (.inl ⟨rfl, N1, hrec.out⟩)
            subst e1 e2 e3
            have Pg := Lib.hid (Pf.out.call hb3)
            have G3 := Lib.hid gs3
            have GMg := Lib.hid (Pg.out.isG GM5.out hAq.out)
            clear hr3 gs3 hb3 Pf
            go_wp2_with fail
            refine (xSame_any Bs3 A ms3 ds3 lm c ls3 wg G3.out GMg.out).mono ?_
            rintro e wh ⟨rfl, hbh⟩
            have Ph := Lib.hid (Pg.out.call hbh)
            have hw2 := Hw2.out
            have hc2 : Hid (headS (clampD (s3 : Int)) = headS s3) := Lib.hid (by rw [clampD_of s3 (by have := HN2.out; have := Hn39.out; omega)])
            clear hbh Pg G3 GMg
            go_wp2_with fail
            refine (jHead_any _ _).mono ?_
            rw [hc2.out]
            rintro e wi ⟨rfl, hbi⟩
            have Pi := Lib.hid (Ph.out.call hbi)
            have hH2l : Hid ((headS s3).length ≤ 600) := Lib.hid (by rw [headS_length]; omega)
            obtain ⟨H2, HH2⟩ : ∃ y, Hid (headS s3 = y) := ⟨_, Lib.hid rfl⟩
            rw [HH2.out] at hH2l ⊢
            obtain ⟨z1, d0, f0⟩ := Pi.out.cell (k := 0) (by omega)
            obtain ⟨wj, HWj⟩ : ∃ y, Hid (wi.setCell ⟨q, 0, none⟩ (.string (str H2)) = y) := ⟨_, Lib.hid rfl⟩
            have Pj : Hid (Pl w5 wj q ((rgj.set 39 MK).set 0 H2) H2 MK) := Lib.hid (by rw [← HWj.out]; exact Pi.out.setH hH2l.out)
            have hf1 : Hid (((rgj.set 39 MK).set 0 H2).getD 1 [] = firstS s3 ls3) := Lib.hid (by rw [getD_set_ne (by omega)]; exact hrec.out.first)
            clear hbi Ph Pi
            go_wp2_with fail
            rw [HWj.out]
            clear d0 f0 HWj
            refine (jScan_any _ 40 40 _ wj Pj.out.strs (by omega) (HT.out.below (bmod B5.out Pj.out.mod hqw.out))).mono ?_
            rintro e wk ⟨s4, Bs4, ms4, ds4, ls4, ok4, rfl, hr4, _, _, _, _, hb4⟩
            obtain rfl : ok4 = false := lateRec (by rw [HH2.out]; exact Pj.out.rgn) (by have := HN2.out; have := Hn39.out; omega) hml.out hmr.out hf1.out hr4
            have Bk : Hid (Below w.heap.size w wk) := Lib.hid (bnext (bmod B5.out Pj.out.mod hqw.out) hb4)
            clear hr4 hb4 Pj hrec
            go_wp2
            go_ret
            exact ⟨rfl, Bk.out⟩
set_option maxRecDepth 100000 in
theorem lifted (os : Os) (started : os.Started) (H : Type) (enc : TypeId × Value → H) :
    ReturnsInHanded {} Tryd.checked os 5 .any (fun w args => (Rows.journalWholeSpec.pre enc Tryd.prog Tryd.f5 [] false w args ∧ laidMetH Tryd.prog laidT w) ∧ sizedMet enc Tryd.prog Tryd.f5 (OpenSpec.ofChange Rows.journalWholeSpec) false w args)
      (Rows.journalWholeSpec.post enc Tryd.prog Tryd.f5 false true false false) := by
  refine returnsInHanded_of_change_and (C := Tryd.checked) (X := fun w _ => laidMetH Tryd.prog laidT w) (fun _ _ _ hh h => h.of_heap hh) own started (by kernel_rfl) Tryd.func5
    (ChangeSpec.witness_shaped (enc := enc) (C := Tryd.checked) (os := os) (X := fun w _ => laidMetH Tryd.prog laidT w) false (World.doorLaid Tryd.prog 400 os) #[.slice none 0 0, .slice none 0 0, .agg #[.int .i64 0, .int .i64 0]] 8 rfl (World.shaped_of_RefB (by kernel_rfl) (by kernel_rfl)) (by kernel_rfl) (by kernel_rfl) (by kernel_rfl) (door_met os _)) ?_
  intro W base args ds gs before hval0 hW _ _ hL _
  have hval : ∀ (j : Nat) t v, Tryd.f5.params[j]? = some t → args[j]? = some v → Value.okWide Tryd.prog W .any base t v := hval0
  have hW' := hW
  obtain ⟨p, q, hA0, hV, rfl, hfz, hnd⟩ := hW
  have hA : DataW.TrodAll enc Tryd.prog W 0 (fun _ => true) true Tryd.f5.params.toList args.toList ds p := hA0
  rw [Tryd.params5] at hA hval
  obtain ⟨v0, vs0, d0, ds0, p0, q0, hargs, rfl, rfl, h0, r0⟩ := trodAll_cons hA
  obtain ⟨v1, vs1, d1, ds1, p1, q1, rfl, rfl, rfl, h1, r1⟩ := trodAll_cons r0
  obtain ⟨v2, vs2, d2, ds2, p2, q2, rfl, rfl, rfl, h2, r2⟩ := trodAll_cons r1
  obtain ⟨rfl, rfl, rfl⟩ := trodAll_nil r2
  obtain rfl : args = #[v0, v1, v2] := by cases args; simp_all
  obtain ⟨x0, len0, cap0, a0, rfl, w0, y0⟩ := opens_specs (hval 0 28 v0 rfl rfl) h0
  obtain ⟨x1, len1, cap1, a1, rfl, w1, y1⟩ := opens_specs (hval 1 28 v1 rfl rfl) h1
  obtain ⟨a2, b2, rfl, w2, y2⟩ := opens_int2 Tryd.underlying44 (by kernel_rfl) (by kernel_rfl) Tryd.underlying3 (hval 2 44 v2 rfl rfl) h2
  clear hA0 hval0
  refine (walk x0 len0 cap0 a0 x1 len1 cap1 a1 a2 b2 W w0 y0 w1 y1 w2 y2 (tab_of_laid hL)).mono fun e W' ⟨he, bel⟩ => ?_
  subst he
  exact ⟨_, rfl, law_post laidOut (by rw [Tryd.params5]; decide +kernel) rfl Tryd.underlying4 rfl hW' (fun _ => rfl) bel⟩
theorem over : Rows.journalWholeRow.holds Tryd.pinned (OpenSpec.ofChange Rows.journalWholeSpec) :=
  OpenClaim.holds_of_wide 5 Tryd.f5 rfl rfl rfl rfl rfl rfl rfl ⟨rfl, rfl, rfl, rfl, rfl⟩ rfl rfl rfl rfl rfl (by kernel_rfl) Tryd.func5 (by kernel_rfl)
    (of_decide_eq_true (by kernel_rfl)) (by unfold Func.isWrapper; first | (rw [if_pos (by decide +kernel)]; kernel_rfl) | (rw [if_neg (by decide +kernel)]; exact ⟨rfl, rfl⟩))
    (fun os started H enc _ => lifted os started H enc)
theorem proved : Rows.JournalWholeCardSaid :=
  Claim7.holds_tied_plain_at .later [] [.data] true Rows.journalWholeCard.stood.harness false over (fun _ h => by cases h) (by kernel_rfl) (fun _ h => by cases h) journalWhole_row_tie rfl ⟨rfl, rfl⟩ (by kernel_rfl) rfl
    (fun f fn hf hfn => by
      obtain rfl : f = 5 := Option.some.inj ((show Tryd.prog.funcNamed "lockgate/lockgatelaw11.JournalWhole" = some 5 by kernel_rfl).symm.trans hf) |>.symm
      obtain rfl : fn = Tryd.f5 := (Option.some.inj (Tryd.func5.symm.trans hfn)).symm
      exact ⟨by kernel_rfl, fun j t ht => by
        rw [Tryd.params5] at ht
        have hm : t ∈ [28, 28, 44] := by simpa using Array.mem_of_getElem? ht
        have hall : ([28, 28, 44].all fun u => !Tryd.prog.wantsStandIn u) = true := by kernel_rfl
        exact (show Tryd.prog.wantsStandIn t = false by simpa using List.all_eq_true.1 hall t hm)⟩)
    (by kernel_rfl)
end Go.Proofs.YtgncmgchoogmpaaDoor.journalWhole
