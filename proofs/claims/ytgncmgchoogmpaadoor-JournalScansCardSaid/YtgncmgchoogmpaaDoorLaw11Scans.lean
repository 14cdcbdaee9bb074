/- Any region of a journal is scanned by the program as by the document: a record of any number and changes, to 10, a head of any number, sectors and its mark, with any places turned, cut to any length. -/
import Derived.Test.YtgncmgchoogmpaaDoorJx11
import Derived.Test.YtgncmgchoogmpaaDoorMixY
namespace Go.Proofs.YtgncmgchoogmpaaDoor.journalScans
open Go.RowKit Go.ChangeShapes Go.WideShapes Go.ChangeAt
open Go.ChangeMaps (open_string shut_string)

/-- The row of texts as it grows, and what lies beside it. -/
structure Bd (w wx : World) (q2 : Int) (A : Option Addr) (nb : Nat) (bl : List Ch) (p : Nat) (mk : Ch) (v : Value) (rg : List (List UInt8)) : Prop where
  row : RG wx 1 encS v rg
  far : ∀ g, blk v = some g → w.heap.size < g ∧ g ≠ p ∧ (0 < nb → ∀ off, A ≠ some ⟨g, off, none⟩)
  bel : Below w.heap.size w wx
  q : wx.cell? ⟨w.heap.size, 2, none⟩ = some (.int .i64 q2)
  b : IsG wx 2 encC A nb bl
  m : ChAt wx p mk
  short : ∀ s ∈ rg, s.length ≤ 600
section
variable {w wx wy : World} {q2 : Int} {A : Option Addr} {nb : Nat} {bl : List Ch} {p : Nat} {mk : Ch} {v : Value} {rg : List (List UInt8)}
theorem Bd.call (h : Bd w wx q2 A nb bl p mk v rg) (b : Below wx.heap.size wx wy) : Bd w wy q2 A nb bl p mk v rg :=
  ⟨h.row.below b, h.far, bnext h.bel b, (b.cell (p := ⟨w.heap.size, 2, none⟩) (lt_of_cell h.q)).trans h.q, h.b.below b, h.m.below b, h.short⟩
theorem Bd.app (h : Bd w wx q2 A nb bl p mk v rg) {v' : Value} {l2 : List (List UInt8)} (r : RG wy 1 encS v' (rg ++ l2)) (a : AppG wx wy v v') (hs : ∀ s ∈ l2, s.length ≤ 600) : Bd w wy q2 A nb bl p mk v' (rg ++ l2) where
  row := r
  far := fun g hg => by
    rcases a.blk with e | ⟨g', e, h'⟩
    · exact h.far g (e ▸ hg)
    · rw [e] at hg
      injection hg with hg
      subst hg
      have hq : w.heap.size < wx.heap.size := lt_of_cell h.q
      refine ⟨by omega, fun e => by have := h.m.lt; omega, fun h0 off e => ?_⟩
      obtain ⟨g2, o2, e2, hg2, _⟩ := h.b.cells h0
      have : g' = g2 := congrArg Addr.block (Option.some.inj (e.symm.trans e2))
      omega
  bel := Mod.below h.bel a.mod h.bel.size (fun g hg => Nat.le_of_lt (h.far g hg).1)
  q := (a.mod.cell (p := ⟨w.heap.size, 2, none⟩) (lt_of_cell h.q) (fun e => absurd (h.far w.heap.size e).1 (Nat.lt_irrefl _))).trans h.q
  b := h.b.later a.mod (fun g off e h0 hg => (h.far g hg).2.2 h0 off e)
  m := h.m.later a.mod (fun hg => (h.far p hg).2.1 rfl)
  short := fun s hs' => (List.mem_append.1 hs').elim (h.short s) (hs s)
theorem Bd.set {g off n c : Nat} (h : Bd w wx q2 A nb bl p mk (.slice (some ⟨g, off, none⟩) n c) rg) {k : Nat} (hk : k < rg.length) {s : List UInt8} (hs : s.length ≤ 600) : Bd w (wx.setCell ⟨g, off + k, none⟩ (.string (str s))) q2 A nb bl p mk (.slice (some ⟨g, off, none⟩) n c) (rg.set k s) where
  row := by
    have := RG.set encS_ok h.row (i := k) hk s
    rw [Nat.mul_one] at this
    exact this
  far := h.far
  bel := bmod h.bel ((Mod.refl (· = g) wx).set1 _) (Nat.le_of_lt (h.far g rfl).1)
  q := (((Mod.refl (· = g) wx).set1 _).cell (p := ⟨w.heap.size, 2, none⟩) (lt_of_cell h.q) (fun e => by have := (h.far g rfl).1; simp at e; omega)).trans h.q
  b := h.b.later ((Mod.refl (· = g) wx).set1 _) (fun g' o e h0 hg => (h.far g rfl).2.2 h0 o (hg ▸ e))
  m := h.m.later ((Mod.refl (· = g) wx).set1 _) (fun e => (h.far g rfl).2.1 e.symm)
  short := fun t ht => by
    rcases List.mem_or_eq_of_mem_set ht with h' | rfl
    · exact h.short t h'
    · exact hs
theorem Bd.get {g off n c : Nat} (h : Bd w wx q2 A nb bl p mk (.slice (some ⟨g, off, none⟩) n c) rg) {k : Nat} (hk : k < rg.length) : ∃ s, s.length ≤ 600 ∧ wx.cell? ⟨g, off + k, none⟩ = some (.string (str s)) ∧ wx.frozen? ⟨g, off + k, none⟩ = false := by
  have e := List.getElem?_eq_getElem (l := rg) (i := k) hk
  have := h.row.cell encS_ok e (j := 0) (u := .string (str (rg[k]'hk))) rfl
  simp only [Nat.mul_one, Nat.add_zero] at this
  exact ⟨_, h.short _ (List.getElem_mem hk), this⟩
end
theorem isG_two (w : World) (a b : List UInt8) (t : TypeId) : IsG (w.alloc (.cells #[.string (str a), .string (str b)] t)) 1 encS (some ⟨w.heap.size, 0, none⟩) 2 [a, b] :=
  ((show RG (w.alloc (.cells #[.string (str a), .string (str b)] t)) 1 encS (.slice (some ⟨w.heap.size, 0, none⟩) 2 2) [a, b] from
  ⟨rfl, .inr ⟨w.heap.size, 0, 2, rfl, by simp, by simp, by unfold maxLen; omega, fun j u hu => by
    match j, hu with
    | 0, hu | 1, hu => simp [flat, encS] at hu; subst hu; simp [go_sem]
    | j + 2, hu => simp [flat, encS] at hu, fun j hj => by simp at hj, fun j hj => by simp [go_sem]⟩⟩).is encS_ok).1
theorem rec_short {seq : Int} {m : List Ch} (hr : rowB m = true) (hl : m.length ≤ 10) : (recL 40 seq m).length ≤ 11 ∧ (∀ c ∈ recL 40 seq m, c.2.length ≤ 600) ∧ (recM 40 seq m).2.length ≤ 600 := by
  unfold recL recM
  split
  · refine ⟨by rw [numbered_length, textsS, List.length_cons, List.length_map]; omega, fun c hc => ?_, by rw [markS_length]; omega⟩
    obtain ⟨i, hi⟩ := List.mem_iff_getElem?.1 hc
    have hlt : i < (textsS seq.toNat m).length := by
      have := (List.getElem?_eq_some_iff.1 hi).1
      rwa [numbered_length] at this
    obtain ⟨s, hs⟩ : ∃ s, (textsS seq.toNat m)[i]? = some s := ⟨_, List.getElem?_eq_getElem hlt⟩
    rw [numbered_get _ 1 i s hs] at hi
    injection hi with hi
    subst hi
    have hm := List.mem_of_getElem? hs
    rw [textsS] at hm
    rcases List.mem_cons.1 hm with rfl | hm
    · show (firstS _ _).length ≤ 600
      rw [firstS_length _ _ (by omega)]; omega
    · obtain ⟨y, hy, rfl⟩ := List.mem_map.1 hm
      show y.2.length ≤ 600
      rw [(rowB_of hr y hy).2.2]; omega
  · exact ⟨by simp, fun c hc => by simp at hc, by simp⟩
set_option maxRecDepth 100000 in
set_option maxHeartbeats 4000000 in
theorem walk (a0 b0 c0 : Int) (x1 : Option Addr) (len1 cap1 : Nat) (l1 : List Sp) (x2 : Option Addr) (len2 cap2 : Nat) (l2 : List Sp) (w : World) (_ : (Lit.int .i64 a0).wf = true) (_ : (Lit.int .i64 b0).wf = true) (_ : (Lit.int .i64 c0).wf = true)
    (h1 : IsG w 3 encP x1 len1 l1) (_ : ∀ s ∈ l1, wfP s) (h2 : IsG w 3 encP x2 len2 l2) (hw2 : ∀ s ∈ l2, wfP s) (hT : Tab w) :
    Calls Tryd.prog 4 #[.agg #[.int .i64 a0, .int .i64 b0, .int .i64 c0], .slice x1 len1 cap1, .slice x2 len2 cap2] w fun e w' => e = .returned (.bool true) ∧ Below w.heap.size w w' := by
  have HT := Lib.hid hT
  have H1 := Lib.hid h1
  have H2 := Lib.hid h2
  have HW2 := Lib.hid hw2
  have hl2 := Lib.hid h2.length
  have hm2 := h2.small
  clear hT h1 h2 hw2
  obtain ⟨w0, HW0⟩ : ∃ x, Hid (w.alloc (.cells #[.int .i64 a0, .int .i64 b0, .int .i64 c0] 27) = x) := ⟨_, Lib.hid rfl⟩
  obtain ⟨p0, Hp0⟩ : ∃ x, Hid (w.heap.size = x) := ⟨_, Lib.hid rfl⟩
  have B0 : Hid (Below w.heap.size w w0) := Lib.hid (by rw [← HW0.out]; exact balloc (Below.refl _ _) _)
  have o0 : Hid (w0.cell? ⟨p0, 0, none⟩ = some (.int .i64 a0)) := Lib.hid (by rw [← HW0.out, ← Hp0.out]; simp [go_sem])
  have o1 : Hid (w0.cell? ⟨p0, 1, none⟩ = some (.int .i64 b0)) := Lib.hid (by rw [← HW0.out, ← Hp0.out]; simp [go_sem])
  have o2 : Hid (w0.cell? ⟨p0, 2, none⟩ = some (.int .i64 c0)) := Lib.hid (by rw [← HW0.out, ← Hp0.out]; simp [go_sem])
  go_enter Tryd.func4, Tryd.ntmps4
  go_wp2_with fail
  rw [HW0.out, Hp0.out]
  refine (awake_any _ (HT.out.below B0.out)).mono ?_
  rintro e w1 ⟨rfl, hb1⟩
  have B1 := Lib.hid (bnext B0.out hb1)
  have B01 := Lib.hid hb1
  clear hb1
  have d0 := (B01.out.cell (p := ⟨p0, 0, none⟩) (lt_of_cell o0.out)).trans o0.out
  go_wp2_with fail
  refine (xHead_any _ _).mono ?_
  obtain ⟨HH, HHH⟩ : ∃ y, Hid (headS (clampD a0) = y) := ⟨_, Lib.hid rfl⟩
  have hHl : Hid (HH.length ≤ 600) := Lib.hid (by rw [← HHH.out, headS_length]; omega)
  rw [HHH.out]
  rintro e w2 ⟨rfl, hb2⟩
  have B2 := Lib.hid (bnext B1.out hb2)
  have B02 := Lib.hid (bnext B01.out hb2)
  clear hb2 d0
  obtain ⟨w3, HW3⟩ : ∃ y, Hid (w2.alloc (.cells #[.string (str HH)] 9) = y) := ⟨_, Lib.hid rfl⟩
  obtain ⟨p3, Hp3⟩ : ∃ y, Hid (w2.heap.size = y) := ⟨_, Lib.hid rfl⟩
  have B23 : Hid (Below w2.heap.size w2 w3) := Lib.hid (by rw [← HW3.out]; exact balloc (Below.refl _ _) _)
  have B3 := Lib.hid (bnext B2.out B23.out)
  have B03 := Lib.hid (bnext B02.out B23.out)
  have R3 : Hid (RG w3 1 encS (.slice (some ⟨p3, 0, none⟩) 1 1) [HH]) := Lib.hid (by rw [← HW3.out, ← Hp3.out]; exact RG.one w2 HH _)
  have hp3 : Hid (p3 < w3.heap.size ∧ p0 < p3) := Lib.hid ⟨R3.out.lt rfl, by have h := lt_of_cell o0.out; have h2 : p0 < w0.heap.size := h; have := B02.out.size; have := Hp3.out; omega⟩
  obtain ⟨V3, HV3⟩ : ∃ y, Hid ((.slice (some ⟨p3, 0, none⟩) 1 1 : Value) = y) := ⟨_, Lib.hid rfl⟩
  have hblk : Hid (blk V3 = some p3) := Lib.hid (by rw [← HV3.out]; rfl)
  rw [HV3.out] at R3
  go_upto_region 3 with fail
  rw [HW3.out, Hp3.out, HV3.out]
  clear HW3 HV3
  obtain ⟨m, Hm⟩ : ∃ y, Hid (rowSp (l1.take 10) = y) := ⟨_, Lib.hid rfl⟩
  have hmr : Hid (rowB m = true) := Lib.hid (by rw [← Hm.out]; exact rowSp_row _)
  have hml : Hid (m.length ≤ 10) := Lib.hid (by rw [← Hm.out]; have := rowSp_length (l1.take 10); rw [List.length_take] at this; omega)
  obtain ⟨E, HE⟩ : ∃ y, Hid (recE 40 b0 m = y) := ⟨_, Lib.hid rfl⟩
  obtain ⟨bl, Hbl⟩ : ∃ y, Hid (recL 40 b0 m = y) := ⟨_, Lib.hid rfl⟩
  obtain ⟨mk, Hmk⟩ : ∃ y, Hid (recM 40 b0 m = y) := ⟨_, Lib.hid rfl⟩
  have hsh := rec_short (seq := b0) hmr.out hml.out
  rw [Hbl.out, Hmk.out] at hsh
  obtain ⟨hs1, hs2, hs3⟩ := hsh
  have HS1 := Lib.hid hs1
  have HS2 := Lib.hid hs2
  have HS3 := Lib.hid hs3
  clear hs1 hs2 hs3
  obtain ⟨lb, Hlb⟩ : ∃ y, Hid (bl.length = y) := ⟨_, Lib.hid rfl⟩
  have hlb : lb ≤ 11 := by have := HS1.out; have := Hlb.out; omega
  go_cut [9, 10, 11] (fun s t u wx => ∃ (A : Option Addr) (c p : Nat), s = .slice A lb c ∧ t = .pointer (some ⟨p, 0, none⟩) ∧ u = .int .i64 E ∧ Hid (Bd w wx c0 A lb bl p mk V3 [HH]))
  case first =>
    have q1 : ∀ y : In (Abv w3), y.u.cell? ⟨p0, 1, none⟩ = some (.int .i64 b0) := fun y => ((bnext B03.out y.is).cell (p := ⟨p0, 1, none⟩) (lt_of_cell o1.out)).trans o1.out
    have FIN : Hid (∀ (wz : World) (p : Nat) (A : Option Addr) (c : Nat), Below w3.heap.size w3 wz → w3.heap.size ≤ p → RG wz 2 encC (.slice A lb c) bl → (∀ g, blk (.slice A lb c) = some g → w3.heap.size ≤ g) → ChAt wz p mk → Bd w wz c0 A lb bl p mk V3 [HH]) := Lib.hid (by
      intro wz p A c hb hp hr hn hk
      refine ⟨R3.out.below hb, fun g hg => ?_, bnext B3.out hb, ?_, (hr.is encC_ok).1, hk, fun s hs => ?_⟩
      · rw [hblk.out] at hg
        injection hg with hg
        subst hg
        have := hp3.out
        have := Hp0.out
        refine ⟨by omega, by omega, fun h0 off e => ?_⟩
        have := hn p3 (by rw [e]; rfl)
        omega
      · rw [Hp0.out]
        exact ((bnext B03.out hb).cell (p := ⟨p0, 2, none⟩) (lt_of_cell o2.out)).trans o2.out
      · rw [List.mem_singleton.1 hs]; exact hHl.out)
    have Bw3 : Hid (Below w3.heap.size w3 w3) := Lib.hid (Below.refl _ _)
    have Bw3d : Hid (Below w3.heap.size w3 w3.drew) := Lib.hid (Below.refl _ _).drew
    go_wp2_with fail
    refine wp_region_mixY (by kernel_rfl) (Cls (Abv w3)) 9 [(0, 0), (1, 0), (2, 0), (3, 1), (4, 1), (5, 0), (6, 0), (7, 0), (8, 0)] [(10, 0), (11, 1), (12, 0)] (by kernel_rfl) (cls (Below.refl _ w3).drew) ?_
    repeat (refine mixY0 rfl (fun K hK => ?_); go_simp; refine hK _ ?_; clear hK K)
    refine mixY1 rfl rfl (fun K hK => ?_) (fun K hK => ?_)
    · go_simp
      obtain ⟨W, HW⟩ : ∃ y, Hid ((w3.alloc (.cells #[.int .i64 0, .string (str [])] 32)).drew = y) := ⟨_, Lib.hid rfl⟩
      obtain ⟨p, Hp⟩ : ∃ y, Hid (w3.heap.size = y) := ⟨_, Lib.hid rfl⟩
      have BA : Hid (Below w3.heap.size w3 W) := Lib.hid (by rw [← HW.out]; exact (balloc Bw3.out _).drew)
      have KA : Hid (ChAt W p (0, [])) := Lib.hid (by rw [← HW.out, ← Hp.out]; exact (ChAt.new w3 (0, []) _).below (Below.refl _ _).drew)
      have hp : Hid (w3.heap.size ≤ p) := Lib.hid (by have := Bw3.out.size; have := Hp.out; omega)
      have bA : Hid (Below w3.heap.size w3 W) := Lib.hid (by rw [← HW.out]; exact (balloc (Below.refl _ _) _).drew)
      rw [HW.out, Hp.out]
      refine hK _ _ (cls BA.out) ?_
      clear hK K
      refine mix1 rfl (fun K hK => ?_)
      go_simp
      refine (lrow_any x1 len1 cap1 l1 10 (by omega) _ (H1.out.below (bnext B3.out BA.out))).mono ?_
      rw [Hm.out]
      rintro e w5 ⟨v5, rfl, r5, n5, hb5⟩
      have Bw5 := Lib.hid (bnext BA.out hb5)
      have K5 := Lib.hid (KA.out.below hb5)
      have R5 := Lib.hid r5
      clear n5 r5 hb5
      obtain ⟨A5, c5, e5⟩ := R5.out.shape
      subst e5
      refine ⟨_, rfl, hK _ _ (cls Bw5.out) ?_⟩
      clear hK K
      refine mix1 rfl (fun K hK => ?_)
      go_simp
      refine (xRecord_any 40 b0 A5 m.length c5 m _ (R5.out.is encC_ok).1 (by omega)).mono ?_
      rw [HE.out, Hbl.out, Hmk.out, chV_def]
      rintro e w6 ⟨v6, rfl, r6, n6, hb6⟩
      obtain ⟨A, c, ev⟩ := r6.shape
      rw [Hlb.out] at ev
      subst ev
      have Bw6 := Lib.hid (bnext Bw5.out hb6)
      have K6 := Lib.hid (K5.out.below hb6)
      have R6 := Lib.hid r6
      have N6 : Hid (∀ g, blk (.slice A lb c) = some g → w3.heap.size ≤ g) := Lib.hid (fun g hg => Nat.le_trans Bw5.out.size (n6 g hg))
      have N6' : Hid (∀ g, blk (.slice A lb c) = some g → w5.heap.size ≤ g) := Lib.hid n6
      have hb6' := Lib.hid hb6
      clear hb6 n6 r6
      refine ⟨_, rfl, hK _ _ (cls Bw6.out) ?_⟩
      clear hK K
      repeat (refine mix0 rfl (fun K hK => ?_); go_simp; refine hK _ ?_; clear hK K)
      have hne : Hid (∀ g, blk (.slice A lb c) = some g → g ≠ p) := Lib.hid (fun g hg e => by have h1 := N6'.out g hg; have h2 := K5.out.lt; omega)
      have k0 := K6.out.c0
      have k1 := K6.out.c1
      have g0 := K6.out.f0
      have g1 := K6.out.f1
      refine mix1 rfl (fun K hK => ?_)
      go_simp
      have HR1 : Hid (ChAt ((w6.setCell ⟨p, 0, none⟩ (.int .i64 mk.1)).setCell ⟨p, 1, none⟩ (.string (str mk.2))) p mk) := Lib.hid (K6.out.set mk)
      have HR2 : Hid (Below w3.heap.size w3 ((w6.setCell ⟨p, 0, none⟩ (.int .i64 mk.1)).setCell ⟨p, 1, none⟩ (.string (str mk.2)))) := Lib.hid (setC_below Bw6.out hp.out mk)
      have HR3 := Lib.hid (FIN.out _ _ _ _ HR2.out hp.out (R6.out.later (setC_mod w6 p mk) (fun g hg e => hne.out g hg e)) N6.out HR1.out)
      refine hK _ _ (cls HR2.out) ?_
      clear hK K k0 k1 g0 g1
      repeat (refine mix0 rfl (fun K hK => ?_); go_simp; refine hK _ ?_; clear hK K)
      refine mixEnd ?_
      go_wp2_with fail
      go_meet
      case rel => exact ⟨A, c, p, rfl, rfl, rfl, HR3⟩
    · go_simp
      refine (lrow_any x1 len1 cap1 l1 10 (by omega) _ (H1.out.below (bnext B3.out Bw3d.out))).mono ?_
      rw [Hm.out]
      rintro e w5 ⟨v5, rfl, r5, n5, hb5⟩
      have Bw5 := Lib.hid (bnext Bw3d.out hb5)
      have R5 := Lib.hid r5
      clear n5 r5 hb5
      obtain ⟨A5, c5, e5⟩ := R5.out.shape
      subst e5
      refine ⟨_, rfl, hK _ _ (cls Bw5.out) ?_⟩
      clear hK K
      repeat (refine mixY0 rfl (fun K hK => ?_); go_simp; refine hK _ ?_; clear hK K)
      refine mixY1 rfl rfl (fun K hK => ?_) (fun K hK => ?_)
      · go_simp
        obtain ⟨W, HW⟩ : ∃ y, Hid (w5.alloc (.cells #[.int .i64 0, .string (str [])] 32) = y) := ⟨_, Lib.hid rfl⟩
        obtain ⟨p, Hp⟩ : ∃ y, Hid (w5.heap.size = y) := ⟨_, Lib.hid rfl⟩
        have BA : Hid (Below w3.heap.size w3 W) := Lib.hid (by rw [← HW.out]; exact balloc Bw5.out _)
        have KA : Hid (ChAt W p (0, [])) := Lib.hid (by rw [← HW.out, ← Hp.out]; exact ChAt.new w5 (0, []) _)
        have hp : Hid (w3.heap.size ≤ p) := Lib.hid (by have := Bw5.out.size; have := Hp.out; omega)
        have bA : Hid (Below w5.heap.size w5 W) := Lib.hid (by rw [← HW.out]; exact balloc (Below.refl _ _) _)
        rw [HW.out, Hp.out]
        refine hK _ _ (cls BA.out) ?_
        clear hK K
        refine mix1 rfl (fun K hK => ?_)
        have R5' := Lib.hid (R5.out.below bA.out)
        go_simp
        refine (xRecord_any 40 b0 A5 m.length c5 m _ (R5'.out.is encC_ok).1 (by omega)).mono ?_
        rw [HE.out, Hbl.out, Hmk.out, chV_def]
        rintro e w6 ⟨v6, rfl, r6, n6, hb6⟩
        obtain ⟨A, c, ev⟩ := r6.shape
        rw [Hlb.out] at ev
        subst ev
        have Bw6 := Lib.hid (bnext BA.out hb6)
        have K6 := Lib.hid (KA.out.below hb6)
        have R6 := Lib.hid r6
        have N6 : Hid (∀ g, blk (.slice A lb c) = some g → w3.heap.size ≤ g) := Lib.hid (fun g hg => Nat.le_trans BA.out.size (n6 g hg))
        have N6' : Hid (∀ g, blk (.slice A lb c) = some g → W.heap.size ≤ g) := Lib.hid n6
        have hb6' := Lib.hid hb6
        clear hb6 n6 r6
        refine ⟨_, rfl, hK _ _ (cls Bw6.out) ?_⟩
        clear hK K
        repeat (refine mix0 rfl (fun K hK => ?_); go_simp; refine hK _ ?_; clear hK K)
        have hne : Hid (∀ g, blk (.slice A lb c) = some g → g ≠ p) := Lib.hid (fun g hg e => by have h1 := N6'.out g hg; have h2 := KA.out.lt; omega)
        have k0 := K6.out.c0
        have k1 := K6.out.c1
        have g0 := K6.out.f0
        have g1 := K6.out.f1
        refine mix1 rfl (fun K hK => ?_)
        go_simp
        have HR1 : Hid (ChAt ((w6.setCell ⟨p, 0, none⟩ (.int .i64 mk.1)).setCell ⟨p, 1, none⟩ (.string (str mk.2))) p mk) := Lib.hid (K6.out.set mk)
        have HR2 : Hid (Below w3.heap.size w3 ((w6.setCell ⟨p, 0, none⟩ (.int .i64 mk.1)).setCell ⟨p, 1, none⟩ (.string (str mk.2)))) := Lib.hid (setC_below Bw6.out hp.out mk)
        have HR3 := Lib.hid (FIN.out _ _ _ _ HR2.out hp.out (R6.out.later (setC_mod w6 p mk) (fun g hg e => hne.out g hg e)) N6.out HR1.out)
        refine hK _ _ (cls HR2.out) ?_
        clear hK K k0 k1 g0 g1
        repeat (refine mix0 rfl (fun K hK => ?_); go_simp; refine hK _ ?_; clear hK K)
        refine mixEnd ?_
        go_wp2_with fail
        go_meet
        case rel => exact ⟨A, c, p, rfl, rfl, rfl, HR3⟩
      · go_simp
        refine (xRecord_any 40 b0 A5 m.length c5 m _ (R5.out.is encC_ok).1 (by omega)).mono ?_
        rw [HE.out, Hbl.out, Hmk.out, chV_def]
        rintro e w6 ⟨v6, rfl, r6, n6, hb6⟩
        obtain ⟨A, c, ev⟩ := r6.shape
        rw [Hlb.out] at ev
        subst ev
        have Bw6 := Lib.hid (bnext Bw5.out hb6)
        have R6 := Lib.hid r6
        have N6 : Hid (∀ g, blk (.slice A lb c) = some g → w3.heap.size ≤ g) := Lib.hid (fun g hg => Nat.le_trans Bw5.out.size (n6 g hg))
        have N6' : Hid (∀ g, blk (.slice A lb c) = some g → w5.heap.size ≤ g) := Lib.hid n6
        have hb6' := Lib.hid hb6
        clear hb6 n6 r6
        refine ⟨_, rfl, hK _ _ (cls Bw6.out) ?_⟩
        clear hK K
        repeat (refine mixY0 rfl (fun K hK => ?_); go_simp; refine hK _ ?_; clear hK K)
        refine mixYe rfl (fun K hK => ?_)
        go_simp
        obtain ⟨W, HW⟩ : ∃ y, Hid (w6.alloc (.cells #[.int .i64 0, .string (str [])] 32) = y) := ⟨_, Lib.hid rfl⟩
        obtain ⟨p, Hp⟩ : ∃ y, Hid (w6.heap.size = y) := ⟨_, Lib.hid rfl⟩
        have BA : Hid (Below w3.heap.size w3 W) := Lib.hid (by rw [← HW.out]; exact balloc Bw6.out _)
        have KA : Hid (ChAt W p (0, [])) := Lib.hid (by rw [← HW.out, ← Hp.out]; exact ChAt.new w6 (0, []) _)
        have hp : Hid (w3.heap.size ≤ p) := Lib.hid (by have := Bw6.out.size; have := Hp.out; omega)
        have bA : Hid (Below w6.heap.size w6 W) := Lib.hid (by rw [← HW.out]; exact balloc (Below.refl _ _) _)
        rw [HW.out, Hp.out]
        refine hK _ _ (cls BA.out) ?_
        clear hK K
        repeat (refine mix0 rfl (fun K hK => ?_); go_simp; refine hK _ ?_; clear hK K)
        have R6' := Lib.hid (R6.out.below bA.out)
        have hne : Hid (∀ g, blk (.slice A lb c) = some g → g ≠ p) := Lib.hid (fun g hg e => by have h1 := R6.out.lt hg; have h2 := Hp.out; omega)
        have k0 := KA.out.c0
        have k1 := KA.out.c1
        have g0 := KA.out.f0
        have g1 := KA.out.f1
        refine mix1 rfl (fun K hK => ?_)
        go_simp
        have HR1 : Hid (ChAt ((W.setCell ⟨p, 0, none⟩ (.int .i64 mk.1)).setCell ⟨p, 1, none⟩ (.string (str mk.2))) p mk) := Lib.hid (KA.out.set mk)
        have HR2 : Hid (Below w3.heap.size w3 ((W.setCell ⟨p, 0, none⟩ (.int .i64 mk.1)).setCell ⟨p, 1, none⟩ (.string (str mk.2)))) := Lib.hid (setC_below BA.out hp.out mk)
        have HR3 := Lib.hid (FIN.out _ _ _ _ HR2.out hp.out (R6'.out.later (setC_mod W p mk) (fun g hg e => hne.out g hg e)) N6.out HR1.out)
        refine hK _ _ (cls HR2.out) ?_
        clear hK K k0 k1 g0 g1
        repeat (refine mix0 rfl (fun K hK => ?_); go_simp; refine hK _ ?_; clear hK K)
        refine mixEnd ?_
        go_wp2_with fail
        go_meet
        case rel => exact ⟨A, c, p, rfl, rfl, rfl, HR3⟩
  case rest =>
  obtain ⟨A, c, p, rfl, rfl, rfl, HB⟩ := hcut
  clear R3 hblk hp3 B3 B03 B23 B2 B02 B1 B01 o0 o1 o2 Hm hmr hml HE Hmk H1 HHH
  go_upto_if 38 with fail
  go_cut [8] (fun s wx => ∃ (X : Option Addr) (n cp : Nat) (rg : List (List UInt8)), s = .slice X n cp ∧ Hid (Bd w wx c0 A lb bl p mk (.slice X n cp) rg) ∧ Hid (rg.length = n) ∧ Hid (1 ≤ n ∧ n ≤ 12))
  case first =>
    by_cases hE0 : E = 0
    · have hEb : (E == 0) = true := by simp [hE0]
      clear hE0
      rw [hEb]
      go_wp2_with fail
      go_loopw [8, 12] (fun v i wx => ∃ (k : Nat) (T : Value) (rg : List (List UInt8)), k ≤ lb ∧ i = .int .i64 k ∧ v = T ∧ Hid (Bd w wx c0 A lb bl p mk T rg) ∧ Hid (rg.length = k + 1)) (fun _ i _ => lb - (intOf i).toNat)
      case atStart => exact ⟨0, V3, [HH], Nat.zero_le _, rfl, rfl, HB, Lib.hid rfl⟩
      case round =>
        obtain ⟨k, T, rg, hk, rfl, rfl, HBk, Hrg⟩ := hrel
        by_cases hlt : k < lb
        · have hkI : (k : Int) < (lb : Int) := by omega
          obtain ⟨g, off, rfl, hg, hc⟩ := HBk.out.b.cells (by omega)
          obtain ⟨x, hx⟩ : ∃ x, bl[k]? = some x := ⟨_, List.getElem?_eq_getElem (by have := Hlb.out; omega)⟩
          have e1 := hc k x 1 (.string (str x.2)) hx rfl
          have hxs : Hid (x.2.length ≤ 600) := Lib.hid (HS2.out x (List.mem_of_getElem? hx))
          clear hc hx hg
          obtain ⟨w5, HW5⟩ : ∃ y, Hid (wr.alloc (.cells #[.string (str x.2)] 9) = y) := ⟨_, Lib.hid rfl⟩
          obtain ⟨p5, Hp5⟩ : ∃ y, Hid (wr.heap.size = y) := ⟨_, Lib.hid rfl⟩
          have B5 : Hid (Below wr.heap.size wr w5) := Lib.hid (by rw [← HW5.out]; exact balloc (Below.refl _ _) _)
          have G5 : Hid (IsG w5 1 encS (some ⟨p5, 0, none⟩) 1 [x.2]) := Lib.hid (by rw [← HW5.out, ← Hp5.out]; exact isG_one wr x.2 _)
          have D5 := HBk.out.call B5.out
          obtain ⟨T6, w6, hr6, r6, a6⟩ := appG stInf encS_ok D5.row (c := 1) G5.out (by rw [Hrg.out]; omega) (by decide) 29
          have Hr6 := Lib.hid hr6
          have D6 := Lib.hid (D5.app r6 a6 (fun s hs => by rw [List.mem_singleton.1 hs]; exact hxs.out))
          have L6 : Hid ((rg ++ [x.2]).length = k + 1 + 1) := Lib.hid (by rw [List.length_append, Hrg.out]; rfl)
          clear hr6 r6 a6 D5
          go_wp2_with (at_builtin; rw [HW5.out, Hp5.out]; refine wpList_append_run rfl (.tmp 45) (.tmp 51) 29 rfl (by exact Hr6.out) ?_)
          go_roundw
          case rel => exact ⟨k + 1, T6, _, by omega, by go_num, rfl, D6, L6⟩
          case measure => simp [intOf]; omega
        · obtain rfl : k = lb := by omega
          have hkI : ¬ (k : Int) < (k : Int) := by omega
          obtain ⟨X, cp, ev⟩ := HBk.out.row.shape
          rw [Hrg.out] at ev
          subst ev
          go_wp2_with fail
          go_meet
          case rel => exact ⟨X, _, cp, rg, rfl, HBk, Hrg, Lib.hid ⟨by omega, by omega⟩⟩
    · have hEb : (E == 0) = false := by simp [hE0]
      clear hE0
      obtain ⟨X, cp, ev⟩ := HB.out.row.shape
      subst ev
      go_wp2_with fail
      go_meet
      case rel => exact ⟨X, 1, cp, _, rfl, HB, Lib.hid rfl, Lib.hid ⟨by omega, by omega⟩⟩
  case rest =>
  obtain ⟨X1, n1, cp1, rg1, rfl, HB1, Hl1, Hn1⟩ := hcut
  clear HB
  go_wp2_with fail
  refine (sector_any 0 _).mono ?_
  obtain ⟨S0, HS0⟩ : ∃ y, Hid (secS 0 = y) := ⟨_, Lib.hid rfl⟩
  have hS0 : Hid (S0.length ≤ 600) := Lib.hid (by rw [← HS0.out, secS_length]; omega)
  rw [HS0.out]
  rintro e w4 ⟨rfl, hb4⟩
  have D4 := Lib.hid (HB1.out.call hb4)
  clear hb4 HB1
  go_wp2_with fail
  refine (sector_any 109 _).mono ?_
  obtain ⟨S1, HS1'⟩ : ∃ y, Hid (secS 109 = y) := ⟨_, Lib.hid rfl⟩
  have hS1 : Hid (S1.length ≤ 600) := Lib.hid (by rw [← HS1'.out, secS_length]; omega)
  rw [HS1'.out]
  rintro e w5 ⟨rfl, hb5⟩
  have D5 := Lib.hid (D4.out.call hb5)
  clear hb5 D4
  obtain ⟨w6, HW6⟩ : ∃ y, Hid (w5.alloc (.cells #[.string (str S0), .string (str S1)] 9) = y) := ⟨_, Lib.hid rfl⟩
  obtain ⟨p6, Hp6⟩ : ∃ y, Hid (w5.heap.size = y) := ⟨_, Lib.hid rfl⟩
  have B6 : Hid (Below w5.heap.size w5 w6) := Lib.hid (by rw [← HW6.out]; exact balloc (Below.refl _ _) _)
  have G6 : Hid (IsG w6 1 encS (some ⟨p6, 0, none⟩) 2 [S0, S1]) := Lib.hid (by rw [← HW6.out, ← Hp6.out]; exact isG_two w5 S0 S1 _)
  have D6 := D5.out.call B6.out
  obtain ⟨T7, w7, hr7, r7, a7⟩ := appG stInf encS_ok D6.row (c := 2) G6.out (by rw [Hl1.out]; have := Hn1.out; omega) (by decide) 29
  have Hr7 := Lib.hid hr7
  have D7 := Lib.hid (D6.app r7 a7 (fun s hs => by
    simp only [List.mem_cons, List.not_mem_nil, or_false] at hs
    rcases hs with rfl | rfl
    · exact hS0.out
    · exact hS1.out))
  obtain ⟨rg2, Hrg2⟩ : ∃ y, Hid (rg1 ++ [S0, S1] = y) := ⟨_, Lib.hid rfl⟩
  have L7 : Hid (rg2.length = n1 + 2) := Lib.hid (by rw [← Hrg2.out, List.length_append, Hl1.out]; rfl)
  rw [Hrg2.out] at D7
  clear hr7 r7 a7 D6 D5
  obtain ⟨X2, cp2, ev⟩ := D7.out.row.shape
  rw [L7.out] at ev
  subst ev
  go_upto_if 59 with (at_builtin; rw [HW6.out, Hp6.out]; refine wpList_append_run rfl (.tmp 53) (.tmp 56) 29 rfl (by exact Hr7.out) ?_)
  clear HW6 Hp6 Hr7 B6 G6
  go_cut [8] (fun s wx => ∃ (X : Option Addr) (n cp : Nat) (rg : List (List UInt8)), s = .slice X n cp ∧ Hid (Bd w wx c0 A lb bl p mk (.slice X n cp) rg) ∧ Hid (rg.length = n) ∧ Hid (3 ≤ n ∧ n ≤ 15))
  case first =>
    by_cases hE0 : E = 0
    · have hEb : (E == 0) = true := by simp [hE0]
      clear hE0
      have k1 := D7.out.m.c1
      obtain ⟨w8, HW8⟩ : ∃ y, Hid (w7.alloc (.cells #[.string (str mk.2)] 9) = y) := ⟨_, Lib.hid rfl⟩
      obtain ⟨p8, Hp8⟩ : ∃ y, Hid (w7.heap.size = y) := ⟨_, Lib.hid rfl⟩
      have B8 : Hid (Below w7.heap.size w7 w8) := Lib.hid (by rw [← HW8.out]; exact balloc (Below.refl _ _) _)
      have G8 : Hid (IsG w8 1 encS (some ⟨p8, 0, none⟩) 1 [mk.2]) := Lib.hid (by rw [← HW8.out, ← Hp8.out]; exact isG_one w7 mk.2 _)
      have D8 := D7.out.call B8.out
      obtain ⟨T9, w9, hr9, r9, a9⟩ := appG stInf encS_ok D8.row (c := 1) G8.out (by rw [L7.out]; have := Hn1.out; omega) (by decide) 29
      have Hr9 := Lib.hid hr9
      have D9 := Lib.hid (D8.app r9 a9 (fun s hs => by rw [List.mem_singleton.1 hs]; exact HS3.out))
      have L9 : Hid ((rg2 ++ [mk.2]).length = n1 + 2 + 1) := Lib.hid (by rw [List.length_append, L7.out]; rfl)
      clear hr9 r9 a9 D8
      obtain ⟨X9, cp9, ev⟩ := D9.out.row.shape
      rw [L9.out] at ev
      subst ev
      go_wp2_with (at_builtin; rw [HW8.out, Hp8.out]; refine wpList_append_run rfl (.tmp 60) (.tmp 63) 29 rfl (by exact Hr9.out) ?_)
      go_meet
      case rel => exact ⟨X9, _, cp9, _, rfl, D9, L9, Lib.hid (by have := Hn1.out; omega)⟩
    · have hEb : (E == 0) = false := by simp [hE0]
      clear hE0
      go_wp2_with fail
      go_meet
      case rel => exact ⟨X2, _, cp2, _, rfl, D7, L7, Lib.hid (by have := Hn1.out; omega)⟩
  case rest =>
  obtain ⟨X3, n, cp, rg3, rfl, HB3, Hl3, Hn3⟩ := hcut
  clear D7 L7 Hn1
  obtain ⟨g, off, cap, ev, hg⟩ := HB3.out.row.open Hl3.out (by have := Hn3.out; omega)
  injection ev with ev1 ev2 ev3
  subst ev1 ev3
  have Hncap : Hid (n ≤ cp ∧ cp ≤ maxLen) := Lib.hid (HB3.out.row.is encS_ok).2
  have hn3 : 3 ≤ n := Hn3.out.1
  have hn15 : n ≤ 15 := Hn3.out.2
  have hnz : ((n : Int) == 0) = false := by simp; omega
  clear hg ev2
  go_upto_block 2 with fail
  go_cut [13] (fun s wx => ∃ rg : List (List UInt8), Hid (Bd w wx c0 A lb bl p mk (.slice (some ⟨g, off, none⟩) n cp) rg) ∧ Hid (rg.length = n))
  case first =>
    go_wp2_with fail
    go_loopw [13] (fun s wx => ∃ i : Nat, i ≤ len2 ∧ i ≤ 6 ∧ s = .int .i64 i ∧ ∃ rg : List (List UInt8), Hid (Bd w wx c0 A lb bl p mk (.slice (some ⟨g, off, none⟩) n cp) rg) ∧ Hid (rg.length = n)) (fun s _ => 6 - (intOf s).toNat)
    case atStart => exact ⟨0, Nat.zero_le _, Nat.zero_le _, rfl, _, HB3, Hl3⟩
    case round =>
      obtain ⟨i, hi, hi6, rfl, rgi, HBi, Hli⟩ := hrel
      by_cases hlt : i < len2
      · have hiI : (i : Int) < (len2 : Int) := by omega
        by_cases hlt6 : i < 6
        · have hiI6 : (i : Int) < 6 := by omega
          obtain ⟨g2, off2, rfl, hg2, hc⟩ := (H2.out.below HBi.out.bel).cells (by omega)
          obtain ⟨x, hx⟩ : ∃ x, l2[i]? = some x := ⟨_, List.getElem?_eq_getElem (by have := hl2.out; omega)⟩
          obtain ⟨xs, xb, xsh⟩ := x
          have e0 := hc i _ 0 (.int .i64 xs) hx rfl
          rw [Nat.add_zero] at e0
          have e1 := hc i _ 1 (.int .u8 xb) hx rfl
          have e2 := hc i _ 2 (.bool xsh) hx rfl
          have hwf := (HW2.out _ (List.mem_of_getElem? hx)).1
          have hbd : -9223372036854775808 ≤ xs ∧ xs ≤ 9223372036854775807 := by
            have q1 : IntKind.i64.min = -9223372036854775808 := by decide
            have h3 : IntKind.i64.min ≤ xs ∧ xs ≤ 9223372036854775807 := by simpa [Lit.wf] using hwf
            rw [q1] at h3
            exact h3
          obtain ⟨hx1, hx2⟩ := hbd
          clear hc hx hg2 hwf
          go_upto_if 81 with fail
          go_cut [14] (fun s wx => ∃ v : Nat, Hid (v ≤ 9223372036854775807) ∧ s = .int .i64 v ∧ wx = wr)
          case first =>
            by_cases hneg : xs < 0
            · have hw3 : IntKind.i64.wrap (xs + 1) = xs + 1 := IntWalk.i64_in _ (by omega)
              have hw4 : IntKind.i64.wrap (-(xs + 1)) = -(xs + 1) := IntWalk.i64_in _ (by omega)
              have hvv : Hid ((-(xs + 1)).toNat ≤ 9223372036854775807) := Lib.hid (by omega)
              go_wp2_with fail
              go_meet
              case rel => exact ⟨(-(xs + 1)).toNat, hvv, by congr 1; omega, rfl⟩
            · have hvv : Hid (xs.toNat ≤ 9223372036854775807) := Lib.hid (by omega)
              go_wp2_with fail
              go_meet
              case rel => exact ⟨xs.toNat, hvv, by congr 1; omega, rfl⟩
          case rest =>
          obtain ⟨v, hv, rfl, rfl⟩ := hcut
          obtain ⟨k, hk, Hk⟩ : ∃ k : Nat, (v : Int).tmod (n : Int) = (k : Int) ∧ Hid (k < n) := ⟨v % n, rfl, Lib.hid (Nat.mod_lt _ (by omega))⟩
          have hkn : (k : Int) < (n : Int) := by have := Hk.out; omega
          have hwk : IntKind.i64.wrap ((k : Int) + 1) = (k : Int) + 1 := IntWalk.i64_in _ (by omega)
          obtain ⟨j, hj, Hj⟩ : ∃ j : Nat, ((k : Int) + 1).tmod (n : Int) = (j : Int) ∧ Hid (j < n) := ⟨(k + 1) % n, rfl, Lib.hid (Nat.mod_lt _ (by omega))⟩
          have hjn : (j : Int) < (n : Int) := by have := Hj.out; omega
          obtain ⟨sk, hsk, ck, fk⟩ := HBi.out.get (k := k) (by rw [Hli.out]; exact Hk.out)
          cases xsh
          · go_wp2_with fail
            refine (sector_any xb _).mono ?_
            obtain ⟨SX, HSX⟩ : ∃ y, Hid (secS xb = y) := ⟨_, Lib.hid rfl⟩
            have hSX : Hid (SX.length ≤ 600) := Lib.hid (by rw [← HSX.out, secS_length]; omega)
            rw [HSX.out]
            rintro e w5 ⟨rfl, hb5⟩
            have D5 := Lib.hid (HBi.out.call hb5)
            obtain ⟨sz, _, cz, fz⟩ := D5.out.get (k := k) (by rw [Hli.out]; exact Hk.out)
            have D6 := Lib.hid (D5.out.set (k := k) (s := SX) (by rw [Hli.out]; exact Hk.out) hSX.out)
            have L6 : Hid ((rgi.set k SX).length = n) := Lib.hid (by rw [List.length_set, Hli.out])
            clear ck fk hb5 e0 e1 e2
            go_wp2
            go_roundw
            case rel => exact ⟨i + 1, by omega, by omega, by go_num, _, D6, L6⟩
            case measure => simp [intOf]; omega
          · obtain ⟨sj, hsj, cj, fj⟩ := HBi.out.get (k := j) (by rw [Hli.out]; exact Hj.out)
            have D6 := Lib.hid (HBi.out.set (k := k) (s := sj) (by rw [Hli.out]; exact Hk.out) hsj)
            have L6 : Hid ((rgi.set k sj).length = n) := Lib.hid (by rw [List.length_set, Hli.out])
            go_wp2_with fail
            go_roundw
            case rel => exact ⟨i + 1, by omega, by omega, by go_num, _, D6, L6⟩
            case measure => simp [intOf]; omega
        · have hiI6 : ¬ (i : Int) < 6 := by omega
          go_wp2_with fail
          go_meet
          case rel => exact ⟨_, HBi, Hli⟩
      · have hiI : ¬ (i : Int) < (len2 : Int) := by omega
        go_wp2_with fail
        go_meet
        case rel => exact ⟨_, HBi, Hli⟩
  case rest =>
  obtain ⟨rg4, HB4, Hl4⟩ := hcut
  clear HB3 Hl3 H2 HW2 hl2 hm2
  have d2 := HB4.out.q
  rw [Hp0.out] at d2
  go_upto_region 23 with fail
  go_cut [123] (fun s wx => ∃ b : Bool, s = .bool b ∧ Hid (b = false → 0 ≤ c0 ∧ c0 ≤ (n : Int)) ∧ wx = wc)
  case first =>
    by_cases hneg : c0 < 0
    · go_wp2_with fail
      go_meet
      case rel => exact ⟨true, rfl, Lib.hid (fun h => by cases h), rfl⟩
    · by_cases hbig : (n : Int) < c0
      · go_wp2_with fail
        go_meet
        case rel => exact ⟨true, rfl, Lib.hid (fun h => by cases h), rfl⟩
      · go_wp2_with fail
        go_meet
        case rel => exact ⟨false, rfl, Lib.hid (fun _ => ⟨by omega, by omega⟩), rfl⟩
  case rest =>
  obtain ⟨b, rfl, Hb, rfl⟩ := hcut
  go_upto_if 123 with fail
  go_cut [15] (fun s wx => ∃ m : Nat, m ≤ n ∧ s = .int .i64 m ∧ wx = wc)
  case first =>
    cases b
    · go_wp2_with fail
      go_meet
      case rel => exact ⟨c0.toNat, by have := Hb.out (by first | rfl | trivial); omega, by have := Hb.out (by first | rfl | trivial); congr 1; omega, by first | rfl | trivial⟩
    · go_wp2_with fail
      go_meet
      case rel => exact ⟨n, Nat.le_refl _, by first | rfl | trivial, by first | rfl | trivial⟩
  case rest =>
  obtain ⟨m, hmn, rfl, rfl⟩ := hcut
  have hmc : (m : Int) ≤ (cp : Int) := by have := Hncap.out.1; omega
  have hm0 : (0 : Int) ≤ (m : Int) := by omega
  have GS := Lib.hid (((HB4.out.row.is encS_ok).1.take hmn).strs (fun s hs => Nat.le_trans (HB4.out.short s (List.mem_of_mem_take hs)) (by decide)))
  have h600 : Hid (∀ s ∈ rg4.take m, s.length ≤ 600) := Lib.hid (fun s hs => HB4.out.short s (List.mem_of_mem_take hs))
  obtain ⟨rt, Hrt⟩ : ∃ y, Hid (rg4.take m = y) := ⟨_, Lib.hid rfl⟩
  rw [Hrt.out] at GS h600
  have BW := Lib.hid HB4.out.bel
  clear d2 HB4 Hl4
  go_wp2_with fail
  refine (jScan_any _ m _ rt _ GS.out (by omega) (HT.out.below BW.out)).mono ?_
  rintro e w5 ⟨s1, Bs1, ms1, ds1, ls1, ok1, rfl, hr1, hg1, _, _, _, hb5⟩
  have HR1 := Lib.hid hr1
  have HG1 := Lib.hid hg1
  have B5 := Lib.hid (bnext BW.out hb5)
  have GS5 := Lib.hid (GS.out.below hb5)
  clear hr1 hg1 hb5 BW GS
  go_wp2_with fail
  refine (xScan_any _ m _ rt _ GS5.out (by omega) h600.out).mono ?_
  rintro e w6 ⟨s2, Bs2, ms2, ds2, ls2, ok2, rfl, hr2, hg2, hb6⟩
  obtain ⟨hs, hl, hk⟩ := HR1.out.eq hr2
  subst hs hl hk
  have HG2 := Lib.hid hg2
  have HG1' := Lib.hid (HG1.out.below hb6)
  have B6 := Lib.hid (bnext B5.out hb6)
  clear hr2 hg2 hb6 HR1 HG1 B5 GS5
  go_wp2_with fail
  refine (xSame_any Bs1 Bs2 ms1 ds1 ms2 ds2 _ _ HG1'.out HG2.out).mono ?_
  rintro e w7 ⟨rfl, hb7⟩
  have B7 := Lib.hid (bnext B6.out hb7)
  clear hb7
  go_wp2
  go_ret
  exact ⟨by simp, B7.out⟩
set_option maxRecDepth 100000 in
theorem lifted (os : Os) (started : os.Started) (H : Type) (enc : TypeId × Value → H) :
    ReturnsInHanded {} Tryd.checked os 4 .any (fun w args => (Rows.journalScansSpec.pre enc Tryd.prog Tryd.f4 [] false w args ∧ laidMetH Tryd.prog laidT w) ∧ sizedMet enc Tryd.prog Tryd.f4 (OpenSpec.ofChange Rows.journalScansSpec) false w args)
      (Rows.journalScansSpec.post enc Tryd.prog Tryd.f4 false true false false) := by
  refine returnsInHanded_of_change_and (C := Tryd.checked) (X := fun w _ => laidMetH Tryd.prog laidT w) (fun _ _ _ hh h => h.of_heap hh) own started (by kernel_rfl) Tryd.func4
    (ChangeSpec.witness_shaped (enc := enc) (C := Tryd.checked) (os := os) (X := fun w _ => laidMetH Tryd.prog laidT w) false (World.doorLaid Tryd.prog 400 os) #[.agg #[.int .i64 0, .int .i64 0, .int .i64 0], .slice none 0 0, .slice none 0 0] 8 rfl (World.shaped_of_RefB (by kernel_rfl) (by kernel_rfl)) (by kernel_rfl) (by kernel_rfl) (by kernel_rfl) (door_met os _)) ?_
  intro W base args ds gs before hval0 hW _ _ hL _
  have hval : ∀ (j : Nat) t v, Tryd.f4.params[j]? = some t → args[j]? = some v → Value.okWide Tryd.prog W .any base t v := hval0
  have hW' := hW
  obtain ⟨p, q, hA0, hV, rfl, hfz, hnd⟩ := hW
  have hA : DataW.TrodAll enc Tryd.prog W 0 (fun _ => true) true Tryd.f4.params.toList args.toList ds p := hA0
  rw [Tryd.params4] at hA hval
  obtain ⟨v0, vs0, d0, ds0, p0, q0, hargs, rfl, rfl, h0, r0⟩ := trodAll_cons hA
  obtain ⟨v1, vs1, d1, ds1, p1, q1, rfl, rfl, rfl, h1, r1⟩ := trodAll_cons r0
  obtain ⟨v2, vs2, d2, ds2, p2, q2, rfl, rfl, rfl, h2, r2⟩ := trodAll_cons r1
  obtain ⟨rfl, rfl, rfl⟩ := trodAll_nil r2
  obtain rfl : args = #[v0, v1, v2] := by cases args; simp_all
  obtain ⟨a0, b0, c0, rfl, w0, y0, z0⟩ := opens_int3 Tryd.underlying27 (by kernel_rfl) (by kernel_rfl) Tryd.underlying3 (hval 0 27 v0 rfl rfl) h0
  obtain ⟨x1, len1, cap1, a1, rfl, w1, y1⟩ := opens_specs (hval 1 28 v1 rfl rfl) h1
  obtain ⟨x2, len2, cap2, a2, rfl, w2, y2⟩ := opens_specs (hval 2 28 v2 rfl rfl) h2
  clear hA0 hval0
  refine (walk a0 b0 c0 x1 len1 cap1 a1 x2 len2 cap2 a2 W w0 y0 z0 w1 y1 w2 y2 (tab_of_laid hL)).mono fun e W' ⟨he, bel⟩ => ?_
  subst he
  exact ⟨_, rfl, law_post laidOut (by rw [Tryd.params4]; decide +kernel) rfl Tryd.underlying4 rfl hW' (fun _ => rfl) bel⟩
theorem over : Rows.journalScansRow.holds Tryd.pinned (OpenSpec.ofChange Rows.journalScansSpec) :=
  OpenClaim.holds_of_wide 4 Tryd.f4 rfl rfl rfl rfl rfl rfl rfl ⟨rfl, rfl, rfl, rfl, rfl⟩ rfl rfl rfl rfl rfl (by kernel_rfl) Tryd.func4 (by kernel_rfl)
    (of_decide_eq_true (by kernel_rfl)) (by unfold Func.isWrapper; first | (rw [if_pos (by decide +kernel)]; kernel_rfl) | (rw [if_neg (by decide +kernel)]; exact ⟨rfl, rfl⟩))
    (fun os started H enc _ => lifted os started H enc)
theorem proved : Rows.JournalScansCardSaid :=
  Claim7.holds_tied_plain_at .later [] [.data] true Rows.journalScansCard.stood.harness false over (fun _ h => by cases h) (by kernel_rfl) (fun _ h => by cases h) journalScans_row_tie rfl ⟨rfl, rfl⟩ (by kernel_rfl) rfl
    (fun f fn hf hfn => by
      obtain rfl : f = 4 := Option.some.inj ((show Tryd.prog.funcNamed "lockgate/lockgatelaw11.JournalScans" = some 4 by kernel_rfl).symm.trans hf) |>.symm
      obtain rfl : fn = Tryd.f4 := (Option.some.inj (Tryd.func4.symm.trans hfn)).symm
      exact ⟨by kernel_rfl, fun j t ht => by
        rw [Tryd.params4] at ht
        have hm : t ∈ [27, 28, 28] := by simpa using Array.mem_of_getElem? ht
        have hall : ([27, 28, 28].all fun u => !Tryd.prog.wantsStandIn u) = true := by kernel_rfl
        exact (show Tryd.prog.wantsStandIn t = false by simpa using List.all_eq_true.1 hall t hm)⟩)
    (by kernel_rfl)
end Go.Proofs.YtgncmgchoogmpaaDoor.journalScans
