/- Want, Drop, Calls, once more: where what they tell lies. -/
import Derived.Test.YthpmodohfjjjcaaCl9
namespace Go.Proofs.Ythpmodohfjjjcaa
open Go.RowKit

/-- What is told lies in blocks from B on. -/
structure NewQ (B : Nat) (v T : Value) : Prop where
  is : ∃ A n c A2 n2 c2, v = .agg #[.slice A n c, .slice A2 n2 c2] ∧ (∀ g, blk (.slice A n c) = some g → B ≤ g) ∧ (∀ g, blk (.slice A2 n2 c2) = some g → B ≤ g) ∧ ∀ g, blk T = some g → B ≤ g
theorem NewQ.mono {B C : Nat} {v T : Value} (x : NewQ C v T) (h : B ≤ C) : NewQ B v T := by
  obtain ⟨A, n, c, A2, n2, c2, e, h1, h2, h3⟩ := x.is
  exact ⟨A, n, c, A2, n2, c2, e, fun g hg => Nat.le_trans h (h1 g hg), fun g hg => Nat.le_trans h (h2 g hg), fun g hg => Nat.le_trans h (h3 g hg)⟩
set_option maxHeartbeats 1000000 in
set_option maxRecDepth 100000 in
theorem change_nw (w : World) (v : Value) (h ws : List Cl) (x : IsQ w v h ws) (ok : OkQ h ws) (hh : h.length ≤ 50) (hw : ws.length ≤ 50) (node m : Int) (k : FuncId) (h1 ws1 t1 : List Cl)
    (hcall : ∀ args u, (callFunc k args).run Try.prog u = .ok (.enter k args) u)
    (hdo : thereB node = true → ∀ u L v1 v2, Ln u L v1 v2 h ws → Calls Try.prog k #[.pointer (some ⟨L, 0, none⟩), .int .i64 node, .int .i64 m] u fun e u' => ∃ T v1' v2', e = .returned T ∧ Done u u' L v1 v2 v1' v2' T h1 ws1 t1)
    (hh1 : h1.length ≤ 100) (hw1 : ws1.length ≤ 100) (ht1 : t1.length ≤ 100) :
    Calls Try.prog 76 #[v, .int .i64 node, .int .i64 m, .func (.func k) #[] #[]] w fun e w' => ∃ v' T, e = .returned (.tuple #[v', T]) ∧
      IsQ w' v' (if thereB node then givesM h1 (srv h1 ws1) else h) (if thereB node then ws1.drop (srv h1 ws1).length else ws) ∧ IsS w' T (if thereB node then t1 ++ srv h1 ws1 else []) ∧ Below w.heap.size w w' ∧ NewQ w.heap.size v' T := by
  obtain ⟨A, n, c, A2, n2, c2, rfl, i1, i2⟩ := x.is
  have H1 := Lib.hid i1
  have H2 := Lib.hid i2
  have Ok := Lib.hid ok
  have Hdo := Lib.hid hdo
  have hnh : n = h.length := i1.length.symm
  have hnw : n2 = ws.length := i2.length.symm
  have Hn1 : Hid (n ≤ 1000) := Lib.hid (by omega)
  have Hn2 : Hid (n2 ≤ 1000) := Lib.hid (by omega)
  obtain ⟨RH, HRH⟩ : ∃ x, Hid ((if thereB node then givesM h1 (srv h1 ws1) else h) = x) := ⟨_, Lib.hid rfl⟩
  obtain ⟨RW, HRW⟩ : ∃ x, Hid ((if thereB node then ws1.drop (srv h1 ws1).length else ws) = x) := ⟨_, Lib.hid rfl⟩
  obtain ⟨RT, HRT⟩ : ∃ x, Hid ((if thereB node then t1 ++ srv h1 ws1 else []) = x) := ⟨_, Lib.hid rfl⟩
  rw [HRH.out, HRW.out, HRT.out]
  obtain ⟨p, Hp⟩ : ∃ W, Hid (w.heap.size = W) := ⟨_, Lib.hid rfl⟩
  obtain ⟨W, HW⟩ : ∃ W, Hid ((w.alloc (.cells #[.slice A n c, .slice A2 n2 c2] 57)).alloc (.cells #[.slice none 0 0, .slice none 0 0] 57) = W) := ⟨_, Lib.hid rfl⟩
  have HB : Hid (Below w.heap.size w W) := Lib.hid (by rw [← HW.out]; exact balloc (balloc (Below.refl _ _) _) _)
  have Hpl : Hid (p + 1 < W.heap.size) := Lib.hid (by rw [← HW.out, ← Hp.out]; simp)
  have Y0 : Hid (W.cell? ⟨p, 0, none⟩ = some (.slice A n c)) := Lib.hid (by rw [← HW.out, ← Hp.out]; simp [go_sem])
  have Y1 : Hid (W.cell? ⟨p, 1, none⟩ = some (.slice A2 n2 c2)) := Lib.hid (by rw [← HW.out, ← Hp.out]; simp [go_sem])
  have Z0 : Hid (W.cell? ⟨p + 1, 0, none⟩ = some (.slice none 0 0)) := Lib.hid (by rw [← HW.out, ← Hp.out]; simp [go_sem])
  have Z1 : Hid (W.cell? ⟨p + 1, 1, none⟩ = some (.slice none 0 0)) := Lib.hid (by rw [← HW.out, ← Hp.out]; simp [go_sem])
  have F0 : Hid (W.frozen? ⟨p + 1, 0, none⟩ = false) := Lib.hid (by rw [← HW.out, ← Hp.out]; simp [go_sem])
  have F1 : Hid (W.frozen? ⟨p + 1, 1, none⟩ = false) := Lib.hid (by rw [← HW.out, ← Hp.out]; simp [go_sem])
  clear x i1 i2 ok hdo hnh hnw
  go_enter Try.func76, Try.ntmps76
  go_wp2_with fail
  rw [HW.out, Hp.out]
  have q0 : ∀ y : In (Abv W), y.u.cell? ⟨p, 0, none⟩ = some (.slice A n c) := fun y => (y.is.cell (p := ⟨p, 0, none⟩) (by have := Hpl.out; show p < _; omega)).trans Y0.out
  have q1 : ∀ y : In (Abv W), y.u.cell? ⟨p, 1, none⟩ = some (.slice A2 n2 c2) := fun y => (y.is.cell (p := ⟨p, 1, none⟩) (by have := Hpl.out; show p < _; omega)).trans Y1.out
  refine wp_region_mix (by kernel_rfl) (Cls (Abv W)) [(0, 0), (1, 0), (3, 0), (4, 0), (2, 1), (5, 1), (6, 0), (7, 1), (8, 0)] (by kernel_rfl) (cls (Below.refl _ W).drew) ?_
  repeat (refine mix0 rfl (fun K hK => ?_); go_simp; refine hK _ ?_; clear hK K)
  refine mix1 rfl (fun K hK => ?_)
  go_simp
  refine (Clone_any W.drew A n c h ((H1.out.below HB.out).below (drew_same _)) Hn1.out).mono ?_
  rintro e X1 ⟨vh, rfl, rh, gh, bh⟩
  have B1 : Hid (Abv W X1) := Lib.hid (bnext (drew_same _) bh)
  obtain ⟨Ah, ch, eh, _, _⟩ := rh.slice
  obtain ⟨nh, Hnh⟩ : ∃ x, Hid (h.length = x) := ⟨_, Lib.hid rfl⟩
  rw [Hnh.out] at eh
  subst eh
  have Rh := Lib.hid rh
  have Gh := Lib.hid gh
  refine ⟨_, rfl, hK _ _ (cls B1.out) ?_⟩
  clear hK K rh gh bh
  refine mix1 rfl (fun K hK => ?_)
  go_simp
  refine (Clone_any X1 A2 n2 c2 ws ((H2.out.below HB.out).below B1.out) Hn2.out).mono ?_
  rintro e X2 ⟨vw, rfl, rw2, gw, bw⟩
  have B2 : Hid (Abv W X2) := Lib.hid (bnext B1.out bw)
  obtain ⟨Aw, cw, ew, _, _⟩ := rw2.slice
  obtain ⟨nw, Hnw⟩ : ∃ x, Hid (ws.length = x) := ⟨_, Lib.hid rfl⟩
  rw [Hnw.out] at ew
  subst ew
  have Rw := Lib.hid rw2
  have Gw := Lib.hid gw
  have Rh2 := Lib.hid (Rh.out.below bw)
  refine ⟨_, rfl, hK _ _ (cls B2.out) ?_⟩
  clear hK K rw2 gw bw
  repeat (refine mix0 rfl (fun K hK => ?_); go_simp; refine hK _ ?_; clear hK K)
  refine mix1 rfl (fun K hK => ?_)
  go_simp
  obtain ⟨L, HL⟩ : ∃ W, Hid (X2.heap.size = W) := ⟨_, Lib.hid rfl⟩
  obtain ⟨X3, HX3⟩ : ∃ W, Hid (X2.alloc (.cells #[.slice Ah nh ch, .slice Aw nw cw] 128) = W) := ⟨_, Lib.hid rfl⟩
  have B23 : Hid (Below X2.heap.size X2 X3) := Lib.hid (by rw [← HX3.out]; exact balloc (Below.refl _ _) _)
  have B3 : Hid (Abv W X3) := Lib.hid (bnext B2.out B23.out)
  rw [HL.out, HX3.out]
  refine hK _ _ (cls B3.out) ?_
  clear hK K q0 q1
  repeat (refine mix0 rfl (fun K hK => ?_); go_simp; refine hK _ ?_; clear hK K)
  refine mixEnd ?_
  have L3 : Hid (Ln X3 L (.slice Ah nh ch) (.slice Aw nw cw) h ws) := Lib.hid (by
    have l1 : ∀ g, blk (.slice Ah nh ch) = some g → g < X1.heap.size := fun g hg => Rh.out.lt hg
    have l2 : ∀ g, blk (.slice Aw nw cw) = some g → X1.heap.size ≤ g ∧ g < X2.heap.size := fun g hg => ⟨Gw.out g hg, Rw.out.lt hg⟩
    have l3 : ∀ g, blk (.slice Ah nh ch) = some g → g < X2.heap.size := fun g hg => Rh2.out.lt hg
    have hL := HL.out
    refine ⟨?_, ?_, ?_, ?_, Rh2.out.below B23.out, Rw.out.below B23.out, fun e => ?_, fun e => ?_, fun g hg e => ?_⟩
    · rw [← HX3.out, ← HL.out]; simp [go_sem]
    · rw [← HX3.out, ← HL.out]; simp [go_sem]
    · rw [← HX3.out, ← HL.out]; simp [go_sem]
    · rw [← HX3.out, ← HL.out]; simp [go_sem]
    · have := l3 _ e; omega
    · have := l2 _ e; omega
    · have := l1 g hg
      have := l2 g e
      omega)
  have LW : Hid (W.heap.size ≤ L) := Lib.hid (by rw [← HL.out]; exact B2.out.size)
  have GhW : Hid (∀ g, blk (.slice Ah nh ch) = some g → W.heap.size ≤ g) := Lib.hid (fun g hg => Gh.out g hg)
  have GwW : Hid (∀ g, blk (.slice Aw nw cw) = some g → W.heap.size ≤ g) := Lib.hid (fun g hg => Nat.le_trans B1.out.size (Gw.out g hg))
  have y0 := (B3.out.cell (p := ⟨p, 0, none⟩) (by have := Hpl.out; show p < _; omega)).trans Y0.out
  have y1 := (B3.out.cell (p := ⟨p, 1, none⟩) (by have := Hpl.out; show p < _; omega)).trans Y1.out
  go_wp2_with fail
  refine (Check_any X3 (.agg #[.slice A n c, .slice A2 n2 c2]) h ws ⟨A, n, c, A2, n2, c2, rfl, (H1.out.below HB.out).below B3.out, (H2.out.below HB.out).below B3.out⟩ Ok.out).mono ?_
  rintro e X4 ⟨rfl, hb⟩
  have B34 := Lib.hid hb
  have B4 : Hid (Abv W X4) := Lib.hid (bnext B3.out hb)
  have L4 := Lib.hid (L3.out.below hb)
  clear hb y0 y1
  go_wp2_with fail
  refine (there_any X4 node).mono ?_
  obtain ⟨TH, HTH⟩ : ∃ x, Hid (thereB node = x) := ⟨_, Lib.hid rfl⟩
  rw [HTH.out]
  rintro e X5 ⟨rfl, rfl⟩
  cases TH
  · have z0 := (B4.out.cell (p := ⟨p + 1, 0, none⟩) Hpl.out).trans Z0.out
    have z1 := (B4.out.cell (p := ⟨p + 1, 1, none⟩) Hpl.out).trans Z1.out
    have f0 := (B4.out.frozen (p := ⟨p + 1, 0, none⟩) Hpl.out).trans F0.out
    have f1 := (B4.out.frozen (p := ⟨p + 1, 1, none⟩) Hpl.out).trans F1.out
    have s0 := L4.out.c0
    have s1 := L4.out.c1
    have Hc := Lib.hid (And.intro z0 (And.intro z1 (And.intro f0 f1)))
    have HR : Hid (RH = h ∧ RW = ws ∧ RT = []) := Lib.hid (by rw [← HRH.out, ← HRW.out, ← HRT.out, HTH.out]; simp)
    go_wp2
    have e0 : ((X4.setCell ⟨p + 1, 0, none⟩ (.slice Ah nh ch)).setCell ⟨p + 1, 1, none⟩ (.slice Aw nw cw)).cell? ⟨p + 1, 0, none⟩ = some (.slice Ah nh ch) := set_other (by simp) (set_same Hc.out.1)
    have e1 : ((X4.setCell ⟨p + 1, 0, none⟩ (.slice Ah nh ch)).setCell ⟨p + 1, 1, none⟩ (.slice Aw nw cw)).cell? ⟨p + 1, 1, none⟩ = some (.slice Aw nw cw) := set_same (set_other (by simp) Hc.out.2.1)
    refine bodyPost_ret (v := .tuple #[.agg #[.slice Ah nh ch, .slice Aw nw cw], .slice none 0 0]) ?_ rfl ⟨_, _, rfl, ?_, ?_, ?_, ⟨⟨_, _, _, _, _, _, rfl, fun g hg => Nat.le_trans HB.out.size (GhW.out g hg), fun g hg => Nat.le_trans HB.out.size (GwW.out g hg), fun g hg => by cases hg⟩⟩⟩
    · rw [results_cell_tmp rfl]
      go_simp
    · rw [HR.out.1, HR.out.2.1]
      refine (L4.out.later (S := (· = p + 1)) (((Mod.refl _ X4).set1 _).set1 _) ?_ ?_ ?_).isQ
      · have := LW.out; have := Hpl.out; omega
      · intro g hg e; have := GhW.out g hg; have := Hpl.out; omega
      · intro g hg e; have := GwW.out g hg; have := Hpl.out; omega
    · rw [HR.out.2.2]
      exact (RC.nil _).isS
    · refine bmod (bmod (bnext HB.out B4.out) ((Mod.refl (· = p + 1) X4).set1 _) ?_) ((Mod.refl (· = p + 1) _).set1 _) ?_
      · have := Hp.out; omega
      · have := Hp.out; omega
  · go_wp2_with fail
    refine (Hdo.out HTH.out X4 L _ _ L4.out).mono ?_
    rintro e X6 ⟨T, v1', v2', rfl, d6⟩
    have D6 := Lib.hid d6
    have M6 : Hid (Mod (fun g => W.heap.size ≤ g) X4 X6) := Lib.hid (d6.mod.mono fun g _ hg => hg.elim (fun e => e ▸ LW.out) (fun e => e.elim (GhW.out g) (GwW.out g)))
    have M6b := Lib.hid d6.mod
    clear d6
    go_wp2_with fail
    refine (serve_any X6 L v1' v2' h1 ws1 D6.out.line hh1 hw1).mono ?_
    rintro e X7 ⟨T7, v17, v27, rfl, d7⟩
    have D7 := Lib.hid d7
    clear d7
    have HT7 : Hid (RC X7 T t1) := Lib.hid (D6.out.told.later D7.out.mod (fun g hg e => by
      have a := D6.out.apart g hg
      rcases e with e | e | e
      · exact a.2.1 e
      · exact a.2.2.1 e
      · exact a.2.2.2 e))
    obtain ⟨A7, c7, e7, _, I7⟩ := D7.out.told.slice
    obtain ⟨nS, HnS⟩ : ∃ x, Hid ((srv h1 ws1).length = x) := ⟨_, Lib.hid rfl⟩
    rw [HnS.out] at e7 I7
    subst e7
    have hsl : nS ≤ 100 := by rw [← HnS.out]; exact Nat.le_trans (srv_le ws1 h1) hw1
    obtain ⟨v8, X8, hr8, r8, a8⟩ := appC HT7.out I7 (c := c7) (by omega) 55
    have Hr8 := Lib.hid hr8
    obtain ⟨A8, c8, e8, _, _⟩ := r8.slice
    have hTlt : ∀ g, blk T = some g → g < X6.heap.size := fun g hg => D6.out.told.lt hg
    have hL8 : Ln X8 L v17 v27 (givesM h1 (srv h1 ws1)) (ws1.drop (srv h1 ws1).length) := D7.out.line.later a8.mod (fun e => (D6.out.apart L e).2.1 rfl) (fun g hg e => (D7.out.n1.not (hTlt g e) (D6.out.apart g e).2.2.1) hg) (fun g hg e => (D7.out.n2.not (hTlt g e) (D6.out.apart g e).2.2.2) hg)
    have HR : Hid (RH = givesM h1 (srv h1 ws1) ∧ RW = ws1.drop (srv h1 ws1).length ∧ RT = t1 ++ srv h1 ws1) := Lib.hid (by rw [← HRH.out, ← HRW.out, ← HRT.out, HTH.out]; simp)
    rw [← HR.out.1, ← HR.out.2.1] at hL8
    rw [← HR.out.2.2] at r8 e8
    obtain ⟨n8, Hn8⟩ : ∃ x, Hid (RT.length = x) := ⟨_, Lib.hid rfl⟩
    rw [Hn8.out] at e8
    have n17 : Nb X4 (.slice Ah nh ch) v17 := Nb.trans D6.out.n1 D6.out.mod.size D7.out.n1
    have n27 : Nb X4 (.slice Aw nw cw) v27 := Nb.trans D6.out.n2 D6.out.mod.size D7.out.n2
    have hW17 : ∀ g, blk v17 = some g → W.heap.size ≤ g := fun g hg => by
      rcases n17 with e | ⟨g', e, h'⟩
      · exact GhW.out g (e ▸ hg)
      · rw [e] at hg; injection hg with hg; have := B4.out.size; omega
    have hW27 : ∀ g, blk v27 = some g → W.heap.size ≤ g := fun g hg => by
      rcases n27 with e | ⟨g', e, h'⟩
      · exact GwW.out g (e ▸ hg)
      · rw [e] at hg; injection hg with hg; have := B4.out.size; omega
    have hv1' : ∀ g, blk v1' = some g → W.heap.size ≤ g := fun g hg => by
      rcases D6.out.n1 with e | ⟨g', e, h'⟩
      · exact GhW.out g (e ▸ hg)
      · rw [e] at hg; injection hg with hg; have := B4.out.size; omega
    have hv2' : ∀ g, blk v2' = some g → W.heap.size ≤ g := fun g hg => by
      rcases D6.out.n2 with e | ⟨g', e, h'⟩
      · exact GwW.out g (e ▸ hg)
      · rw [e] at hg; injection hg with hg; have := B4.out.size; omega
    have m68 : Mod (fun g => W.heap.size ≤ g) X6 X8 := (D7.out.mod.mono fun g _ hg => hg.elim (fun e => e ▸ LW.out) (fun e => e.elim (hv1' g) (hv2' g))).trans (a8.mod.mono fun g _ hg => by have := (D6.out.apart g hg).1; have := B4.out.size; omega)
    have m8 : Mod (fun g => W.heap.size ≤ g) X4 X8 := M6.out.trans m68
    have B8 : Hid (Abv W X8) := Lib.hid (Mod.below B4.out m8 B4.out.size (fun _ h => h))
    have HT8 : Hid (∀ g, blk v8 = some g → W.heap.size ≤ g) := Lib.hid (fun g hg => by
      rcases a8.blk with e | ⟨g', e, h'⟩
      · have := (D6.out.apart g (e ▸ hg)).1; have := B4.out.size; omega
      · rw [e] at hg; injection hg with hg; have := B4.out.size; have := M6.out.size; have := D7.out.mod.size; omega)
    obtain ⟨Ax, cx, ex, _, _⟩ := hL8.has.slice
    obtain ⟨nx, Hnx⟩ : ∃ x, Hid (RH.length = x) := ⟨_, Lib.hid rfl⟩
    rw [Hnx.out] at ex
    obtain ⟨Ay, cy, ey, _, _⟩ := hL8.waits.slice
    obtain ⟨ny, Hny⟩ : ∃ x, Hid (RW.length = x) := ⟨_, Lib.hid rfl⟩
    rw [Hny.out] at ey
    subst ex ey e8
    have L8 := Lib.hid hL8
    have R8 := Lib.hid r8
    have HW17 := Lib.hid hW17
    have HW27 := Lib.hid hW27
    have z0 := (B8.out.cell (p := ⟨p + 1, 0, none⟩) Hpl.out).trans Z0.out
    have z1 := (B8.out.cell (p := ⟨p + 1, 1, none⟩) Hpl.out).trans Z1.out
    have f0 := (B8.out.frozen (p := ⟨p + 1, 0, none⟩) Hpl.out).trans F0.out
    have f1 := (B8.out.frozen (p := ⟨p + 1, 1, none⟩) Hpl.out).trans F1.out
    have Hc := Lib.hid (And.intro z0 (And.intro z1 (And.intro f0 f1)))
    have s0 := hL8.c0
    have s1 := hL8.c1
    clear hL8 r8 a8 hr8 m68 m8 hv1' hv2' hW17 hW27 n17 n27 hTlt hsl I7
    go_wp2_with (at_builtin; refine wpList_append_run rfl (.tmp 35) (.tmp 37) 55 rfl (by exact Hr8.out) ?_)
    have e0 : ((X8.setCell ⟨p + 1, 0, none⟩ (.slice Ax nx cx)).setCell ⟨p + 1, 1, none⟩ (.slice Ay ny cy)).cell? ⟨p + 1, 0, none⟩ = some (.slice Ax nx cx) := set_other (by simp) (set_same Hc.out.1)
    have e1 : ((X8.setCell ⟨p + 1, 0, none⟩ (.slice Ax nx cx)).setCell ⟨p + 1, 1, none⟩ (.slice Ay ny cy)).cell? ⟨p + 1, 1, none⟩ = some (.slice Ay ny cy) := set_same (set_other (by simp) Hc.out.2.1)
    have mm : Mod (· = p + 1) X8 ((X8.setCell ⟨p + 1, 0, none⟩ (.slice Ax nx cx)).setCell ⟨p + 1, 1, none⟩ (.slice Ay ny cy)) := ((Mod.refl _ X8).set1 _).set1 _
    refine bodyPost_ret (v := .tuple #[.agg #[.slice Ax nx cx, .slice Ay ny cy], .slice A8 n8 c8]) ?_ rfl ⟨_, _, rfl, ?_, ?_, ?_, ⟨⟨_, _, _, _, _, _, rfl, fun g hg => Nat.le_trans HB.out.size (HW17.out g hg), fun g hg => Nat.le_trans HB.out.size (HW27.out g hg), fun g hg => Nat.le_trans HB.out.size (HT8.out g hg)⟩⟩⟩
    · rw [results_cell_tmp rfl]
      go_simp
    · refine (L8.out.later mm ?_ ?_ ?_).isQ
      · have := LW.out; have := Hpl.out; omega
      · intro g hg e; have := HW17.out g hg; have := Hpl.out; omega
      · intro g hg e; have := HW27.out g hg; have := Hpl.out; omega
    · exact (R8.out.later mm (fun g hg e => by have := HT8.out g hg; have := Hpl.out; omega)).isS
    · refine bmod (bmod (bnext HB.out B8.out) ((Mod.refl (· = p + 1) X8).set1 _) ?_) ((Mod.refl (· = p + 1) _).set1 _) ?_
      · have := Hp.out; omega
      · have := Hp.out; omega
set_option maxRecDepth 100000 in
set_option maxHeartbeats 1000000 in
theorem Want_nw (w : World) (v : Value) (h ws : List Cl) (x : IsQ w v h ws) (ok : OkQ h ws) (hh : h.length ≤ 50) (hw : ws.length ≤ 50) (z m : Int) :
    Calls Try.prog 75 #[v, .int .i64 z, .int .i64 m] w fun e w' => ∃ v' T, e = .returned (.tuple #[v', T]) ∧ IsQ w' v' (newH .want h ws z m) (newW .want h ws z m) ∧ IsS w' T (newT .want h ws z m) ∧ Below w.heap.size w w' ∧ NewQ w.heap.size v' T := by
  obtain ⟨A, n, c, A2, n2, c2, rfl, i1, i2⟩ := x.is
  have X := Lib.hid x
  obtain ⟨W, HW⟩ : ∃ W, Hid ((w.alloc (.cells #[.slice A n c, .slice A2 n2 c2] 57)).alloc (.cells #[.slice none 0 0, .slice none 0 0] 57) = W) := ⟨_, Lib.hid rfl⟩
  obtain ⟨p, Hp⟩ : ∃ W, Hid (w.heap.size = W) := ⟨_, Lib.hid rfl⟩
  have HB : Hid (Below w.heap.size w W) := Lib.hid (by rw [← HW.out]; exact balloc (balloc (Below.refl _ _) _) _)
  have Hpl : Hid (p + 1 < W.heap.size) := Lib.hid (by rw [← HW.out, ← Hp.out]; simp)
  have Z0 : Hid (W.cell? ⟨p + 1, 0, none⟩ = some (.slice none 0 0)) := Lib.hid (by rw [← HW.out, ← Hp.out]; simp [go_sem])
  have Z1 : Hid (W.cell? ⟨p + 1, 1, none⟩ = some (.slice none 0 0)) := Lib.hid (by rw [← HW.out, ← Hp.out]; simp [go_sem])
  have F0 : Hid (W.frozen? ⟨p + 1, 0, none⟩ = false) := Lib.hid (by rw [← HW.out, ← Hp.out]; simp [go_sem])
  have F1 : Hid (W.frozen? ⟨p + 1, 1, none⟩ = false) := Lib.hid (by rw [← HW.out, ← Hp.out]; simp [go_sem])
  have HC := Lib.hid (change_nw W (.agg #[.slice A n c, .slice A2 n2 c2]) h ws (X.out.below HB.out) ok hh hw z m 81 (doH .want h z m) (doW .want h ws z m) (doT .want h ws z m) (fun _ _ => rfl)
    (fun ht u L v1 v2 x => want_any u L v1 v2 h ws x z m (there_iff ht).1 (there_iff ht).2 (by omega)) (by have := doH_length .want h z m; omega) (by have := doW_length .want h ws z m; omega) (by have := doT_length .want h ws z m; omega))
  obtain ⟨RH, HRH⟩ : ∃ x, Hid (newH .want h ws z m = x) := ⟨_, Lib.hid rfl⟩
  obtain ⟨RW, HRW⟩ : ∃ x, Hid (newW .want h ws z m = x) := ⟨_, Lib.hid rfl⟩
  obtain ⟨RT, HRT⟩ : ∃ x, Hid (newT .want h ws z m = x) := ⟨_, Lib.hid rfl⟩
  rw [HRH.out, HRW.out, HRT.out]
  clear x i1 i2 ok hh hw
  go_enter Try.func75, Try.ntmps75
  go_wp2_with fail
  rw [HW.out, Hp.out]
  refine HC.out.mono ?_
  rintro e w1 ⟨v', T, rfl, hq, hs, hb, hnw⟩
  have hq2 : IsQ w1 v' RH RW := by rw [← HRH.out, ← HRW.out]; exact hq
  have hs2 : IsS w1 T RT := by rw [← HRT.out]; exact hs
  obtain ⟨Ax, nx, cx, Ay, ny, cy, rfl, j1, j2⟩ := hq2.is
  obtain ⟨At, nt, ct, rfl, j3⟩ := hs2.is
  have NW := Lib.hid (hnw.mono HB.out.size)
  clear hnw
  have J1 := Lib.hid j1
  have J2 := Lib.hid j2
  have J3 := Lib.hid j3
  have B1 := Lib.hid hb
  have z0 := (hb.cell (p := ⟨p + 1, 0, none⟩) Hpl.out).trans Z0.out
  have z1 := (hb.cell (p := ⟨p + 1, 1, none⟩) Hpl.out).trans Z1.out
  have f0 := (hb.frozen (p := ⟨p + 1, 0, none⟩) Hpl.out).trans F0.out
  have f1 := (hb.frozen (p := ⟨p + 1, 1, none⟩) Hpl.out).trans F1.out
  have Hc := Lib.hid (And.intro z0 (And.intro z1 (And.intro f0 f1)))
  clear hq hs hq2 hs2 j1 j2 j3 hb
  go_wp2
  have e0 : ((w1.setCell ⟨p + 1, 0, none⟩ (.slice Ax nx cx)).setCell ⟨p + 1, 1, none⟩ (.slice Ay ny cy)).cell? ⟨p + 1, 0, none⟩ = some (.slice Ax nx cx) := set_other (by simp) (set_same Hc.out.1)
  have e1 : ((w1.setCell ⟨p + 1, 0, none⟩ (.slice Ax nx cx)).setCell ⟨p + 1, 1, none⟩ (.slice Ay ny cy)).cell? ⟨p + 1, 1, none⟩ = some (.slice Ay ny cy) := set_same (set_other (by simp) Hc.out.2.1)
  have k1 : (w1.setCell ⟨p + 1, 0, none⟩ (.slice Ax nx cx)).cell? ⟨p + 1, 1, none⟩ = some (.slice none 0 0) := set_other (by simp) Hc.out.2.1
  refine bodyPost_ret (v := .tuple #[.agg #[.slice Ax nx cx, .slice Ay ny cy], .slice At nt ct]) ?_ rfl ⟨_, _, rfl, ⟨Ax, nx, cx, Ay, ny, cy, rfl, (J1.out.set_slice Hc.out.1 _).set_slice k1 _, (J2.out.set_slice Hc.out.1 _).set_slice k1 _⟩, ⟨At, nt, ct, rfl, (J3.out.set_slice Hc.out.1 _).set_slice k1 _⟩, ?_, NW.out⟩
  · rw [results_cell_tmp rfl]
    go_simp
  · refine bmod (bmod (bnext HB.out B1.out) ((Mod.refl (· = p + 1) w1).set1 _) ?_) ((Mod.refl (· = p + 1) _).set1 _) ?_
    · have := Hp.out; omega
    · have := Hp.out; omega
set_option maxRecDepth 100000 in
set_option maxHeartbeats 1000000 in
theorem Drop_nw (w : World) (v : Value) (h ws : List Cl) (x : IsQ w v h ws) (ok : OkQ h ws) (hh : h.length ≤ 50) (hw : ws.length ≤ 50) (z m : Int) :
    Calls Try.prog 54 #[v, .int .i64 z, .int .i64 m] w fun e w' => ∃ v' T, e = .returned (.tuple #[v', T]) ∧ IsQ w' v' (newH .drop h ws z m) (newW .drop h ws z m) ∧ IsS w' T (newT .drop h ws z m) ∧ Below w.heap.size w w' ∧ NewQ w.heap.size v' T := by
  obtain ⟨A, n, c, A2, n2, c2, rfl, i1, i2⟩ := x.is
  have X := Lib.hid x
  obtain ⟨W, HW⟩ : ∃ W, Hid ((w.alloc (.cells #[.slice A n c, .slice A2 n2 c2] 57)).alloc (.cells #[.slice none 0 0, .slice none 0 0] 57) = W) := ⟨_, Lib.hid rfl⟩
  obtain ⟨p, Hp⟩ : ∃ W, Hid (w.heap.size = W) := ⟨_, Lib.hid rfl⟩
  have HB : Hid (Below w.heap.size w W) := Lib.hid (by rw [← HW.out]; exact balloc (balloc (Below.refl _ _) _) _)
  have Hpl : Hid (p + 1 < W.heap.size) := Lib.hid (by rw [← HW.out, ← Hp.out]; simp)
  have Z0 : Hid (W.cell? ⟨p + 1, 0, none⟩ = some (.slice none 0 0)) := Lib.hid (by rw [← HW.out, ← Hp.out]; simp [go_sem])
  have Z1 : Hid (W.cell? ⟨p + 1, 1, none⟩ = some (.slice none 0 0)) := Lib.hid (by rw [← HW.out, ← Hp.out]; simp [go_sem])
  have F0 : Hid (W.frozen? ⟨p + 1, 0, none⟩ = false) := Lib.hid (by rw [← HW.out, ← Hp.out]; simp [go_sem])
  have F1 : Hid (W.frozen? ⟨p + 1, 1, none⟩ = false) := Lib.hid (by rw [← HW.out, ← Hp.out]; simp [go_sem])
  have HC := Lib.hid (change_nw W (.agg #[.slice A n c, .slice A2 n2 c2]) h ws (X.out.below HB.out) ok hh hw z m 77 (doH .drop h z m) (doW .drop h ws z m) (doT .drop h ws z m) (fun _ _ => rfl)
    (fun ht u L v1 v2 x => drop_any u L v1 v2 h ws x z m (there_iff ht).1 (there_iff ht).2 (by omega)) (by have := doH_length .drop h z m; omega) (by have := doW_length .drop h ws z m; omega) (by have := doT_length .drop h ws z m; omega))
  obtain ⟨RH, HRH⟩ : ∃ x, Hid (newH .drop h ws z m = x) := ⟨_, Lib.hid rfl⟩
  obtain ⟨RW, HRW⟩ : ∃ x, Hid (newW .drop h ws z m = x) := ⟨_, Lib.hid rfl⟩
  obtain ⟨RT, HRT⟩ : ∃ x, Hid (newT .drop h ws z m = x) := ⟨_, Lib.hid rfl⟩
  rw [HRH.out, HRW.out, HRT.out]
  clear x i1 i2 ok hh hw
  go_enter Try.func54, Try.ntmps54
  go_wp2_with fail
  rw [HW.out, Hp.out]
  refine HC.out.mono ?_
  rintro e w1 ⟨v', T, rfl, hq, hs, hb, hnw⟩
  have hq2 : IsQ w1 v' RH RW := by rw [← HRH.out, ← HRW.out]; exact hq
  have hs2 : IsS w1 T RT := by rw [← HRT.out]; exact hs
  obtain ⟨Ax, nx, cx, Ay, ny, cy, rfl, j1, j2⟩ := hq2.is
  obtain ⟨At, nt, ct, rfl, j3⟩ := hs2.is
  have NW := Lib.hid (hnw.mono HB.out.size)
  clear hnw
  have J1 := Lib.hid j1
  have J2 := Lib.hid j2
  have J3 := Lib.hid j3
  have B1 := Lib.hid hb
  have z0 := (hb.cell (p := ⟨p + 1, 0, none⟩) Hpl.out).trans Z0.out
  have z1 := (hb.cell (p := ⟨p + 1, 1, none⟩) Hpl.out).trans Z1.out
  have f0 := (hb.frozen (p := ⟨p + 1, 0, none⟩) Hpl.out).trans F0.out
  have f1 := (hb.frozen (p := ⟨p + 1, 1, none⟩) Hpl.out).trans F1.out
  have Hc := Lib.hid (And.intro z0 (And.intro z1 (And.intro f0 f1)))
  clear hq hs hq2 hs2 j1 j2 j3 hb
  go_wp2
  have e0 : ((w1.setCell ⟨p + 1, 0, none⟩ (.slice Ax nx cx)).setCell ⟨p + 1, 1, none⟩ (.slice Ay ny cy)).cell? ⟨p + 1, 0, none⟩ = some (.slice Ax nx cx) := set_other (by simp) (set_same Hc.out.1)
  have e1 : ((w1.setCell ⟨p + 1, 0, none⟩ (.slice Ax nx cx)).setCell ⟨p + 1, 1, none⟩ (.slice Ay ny cy)).cell? ⟨p + 1, 1, none⟩ = some (.slice Ay ny cy) := set_same (set_other (by simp) Hc.out.2.1)
  have k1 : (w1.setCell ⟨p + 1, 0, none⟩ (.slice Ax nx cx)).cell? ⟨p + 1, 1, none⟩ = some (.slice none 0 0) := set_other (by simp) Hc.out.2.1
  refine bodyPost_ret (v := .tuple #[.agg #[.slice Ax nx cx, .slice Ay ny cy], .slice At nt ct]) ?_ rfl ⟨_, _, rfl, ⟨Ax, nx, cx, Ay, ny, cy, rfl, (J1.out.set_slice Hc.out.1 _).set_slice k1 _, (J2.out.set_slice Hc.out.1 _).set_slice k1 _⟩, ⟨At, nt, ct, rfl, (J3.out.set_slice Hc.out.1 _).set_slice k1 _⟩, ?_, NW.out⟩
  · rw [results_cell_tmp rfl]
    go_simp
  · refine bmod (bmod (bnext HB.out B1.out) ((Mod.refl (· = p + 1) w1).set1 _) ?_) ((Mod.refl (· = p + 1) _).set1 _) ?_
    · have := Hp.out; omega
    · have := Hp.out; omega
set_option maxHeartbeats 1000000 in
set_option maxRecDepth 100000 in
theorem Calls_nw (w : World) (v : Value) (h ws : List Cl) (x : IsQ w v h ws) (hh : h.length ≤ 50) :
    Calls Try.prog 48 #[v] w fun e w' => ∃ T, e = .returned T ∧ IsS w' T (callsM h ws) ∧ Below w.heap.size w w' ∧ ∀ g, blk T = some g → w.heap.size ≤ g := by
  obtain ⟨A, n, c, A2, n2, c2, rfl, j1, j2⟩ := x.is
  have J1 := Lib.hid j1
  have J2 := Lib.hid j2
  obtain ⟨W, HW⟩ : ∃ W, Hid (w.alloc (.cells #[.slice A n c, .slice A2 n2 c2] 57) = W) := ⟨_, Lib.hid rfl⟩
  obtain ⟨p, Hp⟩ : ∃ W, Hid (w.heap.size = W) := ⟨_, Lib.hid rfl⟩
  have HB : Hid (Below w.heap.size w W) := Lib.hid (by rw [← HW.out]; exact balloc (Below.refl _ _) _)
  cases ws with
  | nil =>
    obtain rfl : n2 = 0 := by have := j2.length; simp at this; omega
    clear x j1 j2
    go_enter Try.func48, Try.ntmps48
    go_wp2
    go_ret
    exact ⟨.slice none 0 0, rfl, (RC.nil _).isS, balloc (Below.refl _ _) _, fun g hg => by cases hg⟩
  | cons f ws =>
    have hn2 : 0 < n2 := by have := j2.length; simp at this; omega
    have hn2' : ¬ (n2 = 0) := by omega
    have hns := j1.small
    have hn2i : (0 : Int) < (n2 : Int) := by omega
    have hn2b : ((n2 : Int) == 0) = false := by simpa using hn2'
    obtain ⟨g2, off2, rfl, hg2, hcs2⟩ := j2.cells hn2
    obtain ⟨a0, a1⟩ := hcs2 0 f rfl
    rw [Nat.zero_mul, Nat.add_zero] at a0 a1
    have b0 := (HB.out.cell (p := ⟨g2, off2, none⟩) hg2).trans a0
    have b1 := (HB.out.cell (p := ⟨g2, off2 + 1, none⟩) hg2).trans a1
    rw [← HW.out] at b0 b1
    obtain ⟨W2, HW2⟩ : ∃ x, Hid ((w.alloc (.cells #[.slice A n c, .slice (some ⟨g2, off2, none⟩) n2 c2] 57)).alloc (.cells #[.int .i64 f.1, .int .i64 f.2] 61) = x) := ⟨_, Lib.hid rfl⟩
    obtain ⟨p2, Hp2⟩ : ∃ x, Hid (w.heap.size + 1 = x) := ⟨_, Lib.hid rfl⟩
    have HB2 : Hid (Below w.heap.size w W2) := Lib.hid (by rw [← HW2.out]; exact balloc (balloc (Below.refl _ _) _) _)
    have HF0 : Hid (W2.cell? ⟨p2, 0, none⟩ = some (.int .i64 f.1)) := Lib.hid (by rw [← HW2.out, ← Hp2.out]; simp [go_sem])
    have HF1 : Hid (W2.cell? ⟨p2, 1, none⟩ = some (.int .i64 f.2)) := Lib.hid (by rw [← HW2.out, ← Hp2.out]; simp [go_sem])
    clear x j1 j2 hcs2
    go_enter Try.func48, Try.ntmps48
    go_wp2_with fail
    rw [HW2.out, Hp2.out]
    clear b0 b1 a0 a1
    go_loopw [3, 6, 18] (fun T _ i wr => ∃ (k : Nat) (T0 : Value), i = .int .i64 (k : Int) ∧ T0 = T ∧ k ≤ n ∧ Hid (Below w.heap.size w wr) ∧ Hid (Below W2.heap.size W2 wr) ∧ Hid (RC wr T0 (cM (h.take k) f)) ∧ Hid (∀ g, blk T0 = some g → W2.heap.size ≤ g)) (fun _ _ i _ => n - (intOf i).toNat)
    case atStart => exact ⟨0, _, rfl, rfl, by omega, HB2, Lib.hid (Below.refl _ _), Lib.hid (RC.nil _), Lib.hid (fun g hg => by cases hg)⟩
    case round =>
      obtain ⟨k, T0, rfl, rfl, hk, HBr, HB2r, HR, HN⟩ := hrel
      by_cases hlt : k < n
      · obtain ⟨c9, hc9⟩ : ∃ x, h[k]? = some x := ⟨_, List.getElem?_eq_getElem (by rw [J1.out.length]; exact hlt)⟩
        obtain ⟨g, off, rfl, hg, hcs⟩ := (J1.out.below HBr.out).cells (by omega)
        obtain ⟨c0, c1⟩ := hcs k c9 hc9
        have Hst := Lib.hid (cM_step hc9 f)
        have Hwf := Lib.hid (J1.out.wf c9 (List.mem_of_getElem? hc9))
        have hkn : (k : Int) < (n : Int) := by omega
        obtain ⟨pa, Hpa⟩ : ∃ x, Hid (wr.heap.size = x) := ⟨_, Lib.hid rfl⟩
        obtain ⟨Wa, HWa⟩ : ∃ x, Hid (wr.alloc (.cells #[.int .i64 c9.1, .int .i64 c9.2] 61) = x) := ⟨_, Lib.hid rfl⟩
        have HBa : Hid (Below wr.heap.size wr Wa) := Lib.hid (by rw [← HWa.out]; exact balloc (Below.refl _ _) _)
        have Ha0 : Hid (Wa.cell? ⟨pa, 0, none⟩ = some (.int .i64 c9.1)) := Lib.hid (by rw [← HWa.out, ← Hpa.out]; simp [go_sem])
        have Ha1 : Hid (Wa.cell? ⟨pa, 1, none⟩ = some (.int .i64 c9.2)) := Lib.hid (by rw [← HWa.out, ← Hpa.out]; simp [go_sem])
        have d0 := (HB2r.out.cell (p := ⟨p2, 0, none⟩) (lt_of_cell HF0.out)).trans HF0.out
        have d1 := (HB2r.out.cell (p := ⟨p2, 1, none⟩) (lt_of_cell HF0.out)).trans HF1.out
        have hp2 : p2 < wr.heap.size := lt_of_cell d0
        have HD0 : Hid (Wa.cell? ⟨p2, 0, none⟩ = some (.int .i64 f.1)) := Lib.hid ((HBa.out.cell (p := ⟨p2, 0, none⟩) hp2).trans d0)
        have HD1 : Hid (Wa.cell? ⟨p2, 1, none⟩ = some (.int .i64 f.2)) := Lib.hid ((HBa.out.cell (p := ⟨p2, 1, none⟩) hp2).trans d1)
        have HRa := Lib.hid (HR.out.below HBa.out)
        have HBw : Hid (Below w.heap.size w Wa) := Lib.hid (bnext HBr.out HBa.out)
        have HB2w : Hid (Below W2.heap.size W2 Wa) := Lib.hid (bnext HB2r.out HBa.out)
        clear hcs hc9
        cases hq : cQ f c9 with
        | false =>
          rw [hq] at Hst
          have HR2 : Hid (∀ u, Below Wa.heap.size Wa u → RC u T0 (cM (h.take (k + 1)) f)) := Lib.hid (fun u hu => by rw [Hst.out]; exact HRa.out.below hu)
          by_cases he : c9.1 = f.1
          · have hb := bne_no he
            clear hq he
            have HBw' : Hid (Below w.heap.size w (wr.alloc (.cells #[.int .i64 c9.1, .int .i64 c9.2] 61))) := Lib.hid (by rw [HWa.out]; exact HBw.out)
            have HB2w' : Hid (Below W2.heap.size W2 (wr.alloc (.cells #[.int .i64 c9.1, .int .i64 c9.2] 61))) := Lib.hid (by rw [HWa.out]; exact HB2w.out)
            have HR2' : Hid (RC (wr.alloc (.cells #[.int .i64 c9.1, .int .i64 c9.2] 61)) T0 (cM (h.take (k + 1)) f)) := Lib.hid (by rw [HWa.out]; exact HR2.out _ (Below.refl _ _))
            go_wp2
            go_roundw
            case rel => exact ⟨k + 1, T0, by go_num, rfl, by omega, HBw', HB2w', HR2', HN⟩
            case measure => simp [intOf]; omega
          · have hb := bne_yes he
            have hf : fitB c9.2 f.2 = true := by simpa [cQ, hb] using hq
            have Hf := Lib.hid hf
            clear hq he hf
            go_wp2_with fail
            rw [HWa.out]
            refine (Fit_any Wa c9.2 f.2).mono ?_
            rw [Hf.out]
            rintro e w3 ⟨rfl, hb3⟩
            have B3 := Lib.hid hb3
            clear hb3
            go_wp2
            go_roundw
            case rel => exact ⟨k + 1, T0, by go_num, rfl, by omega, Lib.hid (bnext HBw.out B3.out), Lib.hid (bnext HB2w.out B3.out), Lib.hid (HR2.out _ B3.out), HN⟩
            case measure => simp [intOf]; omega
        | true =>
          rw [hq] at Hst
          have hq2 : c9.1 ≠ f.1 ∧ fitB c9.2 f.2 = false := by simpa [cQ] using hq
          have hb := bne_yes hq2.1
          have Hf := Lib.hid hq2.2
          have Hlen : Hid ((cM (h.take k) f).length ≤ 50) := Lib.hid (Nat.le_trans (cM_length _ _) (Nat.le_trans (by rw [List.length_take]; omega) hh))
          clear hq hq2
          go_wp2_with fail
          rw [HWa.out]
          refine (Fit_any Wa c9.2 f.2).mono ?_
          rw [Hf.out]
          rintro e w3 ⟨rfl, hb3⟩
          have B3 := Lib.hid hb3
          clear hb3
          rw [Hpa.out]
          go_wp2_with fail
          have HT3 : Hid (∀ g, blk T0 = some g → g < Wa.heap.size) := Lib.hid (fun g hg => HRa.out.lt hg)
          have hpaN : blk T0 ≠ some pa := fun e => by have := HR.out.lt e; have := Hpa.out; omega
          have hp2N : blk T0 ≠ some p2 := fun e => by have := HN.out _ e; have := lt_of_cell HF0.out; omega
          have hpa3 : pa < w3.heap.size := Nat.lt_of_lt_of_le (lt_of_cell Ha0.out) B3.out.size
          have hp23 : p2 < w3.heap.size := Nat.lt_of_lt_of_le (lt_of_cell HD0.out) B3.out.size
          have q0 : ∀ y : In (Mdb w3 T0), y.u.cell? ⟨pa, 0, none⟩ = some (.int .i64 c9.1) := fun y => (y.is.cell (p := ⟨pa, 0, none⟩) hpa3 hpaN).trans ((B3.out.cell (p := ⟨pa, 0, none⟩) (lt_of_cell Ha0.out)).trans Ha0.out)
          have q1 : ∀ y : In (Mdb w3 T0), y.u.cell? ⟨p2, 1, none⟩ = some (.int .i64 f.2) := fun y => (y.is.cell (p := ⟨p2, 1, none⟩) hp23 hp2N).trans ((B3.out.cell (p := ⟨p2, 1, none⟩) (lt_of_cell HD0.out)).trans HD1.out)
          refine wp_region_mix (by kernel_rfl) (Cls (Mdb w3 T0)) [(0, 0), (1, 0), (2, 0), (3, 0), (4, 0), (5, 1), (6, 0), (7, 1), (8, 1), (9, 0)] (by kernel_rfl) (cls (Mod.refl _ w3).drew) ?_
          repeat (refine mix0 rfl (fun K hK => ?_); go_simp; refine hK _ ?_; clear hK K)
          refine mix1 rfl (fun K hK => ?_)
          go_simp
          obtain ⟨R, HR'⟩ : ∃ x, Hid (restM f.2 = x) := ⟨_, Lib.hid rfl⟩
          refine (Rest_any w3.drew f.2).mono ?_
          rw [HR'.out]
          rintro e w4 ⟨rfl, hb4⟩
          have B4 : Hid (Below w3.heap.size w3 w4) := Lib.hid (bnext (drew_same _) hb4)
          have M4 : Hid (Mdb w3 T0 w4) := Lib.hid (Mod.of_below B4.out)
          clear hb4
          refine ⟨_, rfl, hK _ _ (cls M4.out) ?_⟩
          clear hK K
          repeat (refine mix0 rfl (fun K hK => ?_); go_simp; refine hK _ ?_; clear hK K)
          refine mix1 rfl (fun K hK => ?_)
          go_simp
          have HWf : Hid ((Lit.int .i64 c9.1).wf = true ∧ (Lit.int .i64 R).wf = true) := Lib.hid ⟨Hwf.out.1, by rw [← HR'.out]; exact rest_wf _⟩
          have hb45 : Below w4.heap.size w4 (w4.alloc (.cells #[.int .i64 c9.1, .int .i64 R] 61)) := balloc (Below.refl _ _) _
          obtain ⟨T1, w6, hr6, r6, a6⟩ := appC (((HRa.out.below B3.out).below B4.out).below hb45) (c := 1) (Sgl.new w4 (c9.1, R) HWf.out).is (by have := Hlen.out; omega) 55
          have Hr6 := Lib.hid hr6
          have M5 : Hid (Mdb w3 T0 (w4.alloc (.cells #[.int .i64 c9.1, .int .i64 R] 61))) := Lib.hid (Mod.of_below (bnext B4.out hb45))
          have M6 : Hid (Mdb w3 T0 w6) := Lib.hid (M5.out.trans a6.mod)
          have HB6 : Hid (Below W2.heap.size W2 w6) := Lib.hid (Mod.below (bnext HB2w.out B3.out) M6.out (bnext HB2w.out B3.out).size HN.out)
          have HBw6 : Hid (Below w.heap.size w w6) := Lib.hid (Mod.below (bnext HBw.out B3.out) M6.out (bnext HBw.out B3.out).size (fun g hg => Nat.le_trans HB2.out.size (HN.out g hg)))
          have HR6 : Hid (RC w6 T1 (cM (h.take (k + 1)) f)) := Lib.hid (by
            rw [Hst.out]
            simp only [if_true]
            have : cR f c9 = (c9.1, R) := by rw [cR, HR'.out]
            rw [this]
            exact r6)
          have HN6 : Hid (∀ g, blk T1 = some g → W2.heap.size ≤ g) := Lib.hid (fun g hg => by
            rcases a6.blk with e | ⟨g', e, h'⟩
            · exact HN.out g (e ▸ hg)
            · rw [e] at hg; injection hg with hg
              have := HB2w.out.size; have := B3.out.size; have := B4.out.size; have := hb45.size; omega)
          refine hK _ _ (cls M5.out) ?_
          clear hK K r6 a6 hr6 hb45
          refine mix_append rfl rfl (.tmp 35) (.tmp 42) 55 rfl (by exact Hr6.out) (cls M6.out) ?_
          repeat (refine mix0 rfl (fun K hK => ?_); go_simp; refine hK _ ?_; clear hK K)
          refine mixEnd ?_
          clear q0 q1 hpaN hp2N hpa3 hp23 d0 d1
          go_wp2
          go_roundw
          case rel => exact ⟨k + 1, T1, by go_num, rfl, by omega, HBw6, HB6, HR6, HN6⟩
          case measure => simp [intOf]; omega
      · have hkn : ¬ ((k : Int) < (n : Int)) := by omega
        obtain rfl : k = n := by omega
        have HR2 := HR.out
        rw [List.take_of_length_le (by rw [J1.out.length]; omega)] at HR2
        have HS := Lib.hid HR2.isS
        clear HR2
        go_wp2
        go_ret
        exact ⟨T0, rfl, HS.out, HBr.out, fun g hg => Nat.le_trans HB2.out.size (HN.out g hg)⟩
end Go.Proofs.Ythpmodohfjjjcaa
