/- Changes of queues. -/
import Derived.Test.YthpmodohfjjjcaaCk9
import Derived.Laws.ResultCell
namespace Go.Proofs.Ythpmodohfjjjcaa
open Go.RowKit

/-- A slice of claims, as it is told. -/
structure IsS (w : World) (v : Value) (l : List Cl) : Prop where
  is : ∃ A n c, v = .slice A n c ∧ IsC w A n l
theorem IsS.below {w w' : World} {v : Value} {l : List Cl} (x : IsS w v l) (b : Below w.heap.size w w') : IsS w' v l := by
  obtain ⟨A, n, c, e, h1⟩ := x.is
  exact ⟨A, n, c, e, h1.below b⟩
theorem RC.isS {w : World} {v : Value} {l : List Cl} (x : RC w v l) : IsS w v l := by
  obtain ⟨A, c, e, _, h⟩ := x.slice
  exact ⟨A, _, c, e, h⟩
theorem Ln.isQ {w : World} {L : Nat} {v1 v2 : Value} {h ws : List Cl} (x : Ln w L v1 v2 h ws) : IsQ w (.agg #[v1, v2]) h ws := by
  obtain ⟨A, c, e, _, h1⟩ := x.has.slice
  obtain ⟨A2, c2, e2, _, h2⟩ := x.waits.slice
  exact ⟨A, _, c, A2, _, c2, by rw [e, e2], h1, h2⟩
theorem srv_le : ∀ (ws h : List Cl), (srv h ws).length ≤ ws.length
  | [], _ => by simp [srv]
  | c :: ws, h => by
    unfold srv
    split
    · have := srv_le ws (giveM h c); simp; omega
    · simp
set_option maxHeartbeats 1000000 in
set_option maxRecDepth 100000 in
theorem change_any (w : World) (v : Value) (h ws : List Cl) (x : IsQ w v h ws) (ok : OkQ h ws) (hh : h.length ≤ 50) (hw : ws.length ≤ 50) (node m : Int) (k : FuncId) (h1 ws1 t1 : List Cl)
    (hcall : ∀ args u, (callFunc k args).run Try.prog u = .ok (.enter k args) u)
    (hdo : thereB node = true → ∀ u L v1 v2, Ln u L v1 v2 h ws → Calls Try.prog k #[.pointer (some ⟨L, 0, none⟩), .int .i64 node, .int .i64 m] u fun e u' => ∃ T v1' v2', e = .returned T ∧ Done u u' L v1 v2 v1' v2' T h1 ws1 t1)
    (hh1 : h1.length ≤ 100) (hw1 : ws1.length ≤ 100) (ht1 : t1.length ≤ 100) :
    Calls Try.prog 76 #[v, .int .i64 node, .int .i64 m, .func (.func k) #[] #[]] w fun e w' => ∃ v' T, e = .returned (.tuple #[v', T]) ∧
      IsQ w' v' (if thereB node then givesM h1 (srv h1 ws1) else h) (if thereB node then ws1.drop (srv h1 ws1).length else ws) ∧ IsS w' T (if thereB node then t1 ++ srv h1 ws1 else []) ∧ Below w.heap.size w w' := by
  obtain ⟨A, n, c, A2, n2, c2, rfl, i1, i2⟩ := x.is
  have H1 := Lib.hid i1
  have H2 := Lib.hid i2
  have Ok := Lib.hid ok
  have Hdo := Lib.hid hdo
  have hnh : n = h.length := i1.length.symm
  have hnw : n2 = ws.length := i2.length.symm
  have Hn1 : Hid (n ≤ 1000) := Lib.hid (by omega)
  have Hn2 : Hid (n2 ≤ 1000) := Lib.hid (by omega)
  obtain ⟨RH, HRH⟩ : ∃ x, Hid ((if thereB node then givesM h1 (srv h1 ws1) else h) = x) := ⟨_, Lib.hid rfl⟩
  obtain ⟨RW, HRW⟩ : ∃ x, Hid ((if thereB node then ws1.drop (srv h1 ws1).length else ws) = x) := ⟨_, Lib.hid rfl⟩
  obtain ⟨RT, HRT⟩ : ∃ x, Hid ((if thereB node then t1 ++ srv h1 ws1 else []) = x) := ⟨_, Lib.hid rfl⟩
  rw [HRH.out, HRW.out, HRT.out]
  obtain ⟨p, Hp⟩ : ∃ W, Hid (w.heap.size = W) := ⟨_, Lib.hid rfl⟩
  obtain ⟨W, HW⟩ : ∃ W, Hid ((w.alloc (.cells #[.slice A n c, .slice A2 n2 c2] 57)).alloc (.cells #[.slice none 0 0, .slice none 0 0] 57) = W) := ⟨_, Lib.hid rfl⟩
  have HB : Hid (Below w.heap.size w W) := Lib.hid (by rw [← HW.out]; exact balloc (balloc (Below.refl _ _) _) _)
  have Hpl : Hid (p + 1 < W.heap.size) := Lib.hid (by rw [← HW.out, ← Hp.out]; simp)
  have Y0 : Hid (W.cell? ⟨p, 0, none⟩ = some (.slice A n c)) := Lib.hid (by rw [← HW.out, ← Hp.out]; simp [go_sem])
  have Y1 : Hid (W.cell? ⟨p, 1, none⟩ = some (.slice A2 n2 c2)) := Lib.hid (by rw [← HW.out, ← Hp.out]; simp [go_sem])
  have Z0 : Hid (W.cell? ⟨p + 1, 0, none⟩ = some (.slice none 0 0)) := Lib.hid (by rw [← HW.out, ← Hp.out]; simp [go_sem])
  have Z1 : Hid (W.cell? ⟨p + 1, 1, none⟩ = some (.slice none 0 0)) := Lib.hid (by rw [← HW.out, ← Hp.out]; simp [go_sem])
  have F0 : Hid (W.frozen? ⟨p + 1, 0, none⟩ = false) := Lib.hid (by rw [← HW.out, ← Hp.out]; simp [go_sem])
  have F1 : Hid (W.frozen? ⟨p + 1, 1, none⟩ = false) := Lib.hid (by rw [← HW.out, ← Hp.out]; simp [go_sem])
  clear x i1 i2 ok hdo hnh hnw
  go_enter Try.func76, Try.ntmps76
  go_wp2_with fail
  rw [HW.out, Hp.out]
  have q0 : ∀ y : In (Abv W), y.u.cell? ⟨p, 0, none⟩ = some (.slice A n c) := fun y => (y.is.cell (p := ⟨p, 0, none⟩) (by have := Hpl.out; show p < _; omega)).trans Y0.out
  have q1 : ∀ y : In (Abv W), y.u.cell? ⟨p, 1, none⟩ = some (.slice A2 n2 c2) := fun y => (y.is.cell (p := ⟨p, 1, none⟩) (by have := Hpl.out; show p < _; omega)).trans Y1.out
  refine wp_region_mix (by kernel_rfl) (Cls (Abv W)) [(0, 0), (1, 0), (3, 0), (4, 0), (2, 1), (5, 1), (6, 0), (7, 1), (8, 0)] (by kernel_rfl) (cls (Below.refl _ W).drew) ?_
  repeat (refine mix0 rfl (fun K hK => ?_); go_simp; refine hK _ ?_; clear hK K)
  refine mix1 rfl (fun K hK => ?_)
  go_simp
  refine (Clone_any W.drew A n c h ((H1.out.below HB.out).below (drew_same _)) Hn1.out).mono ?_
  rintro e X1 ⟨vh, rfl, rh, gh, bh⟩
  have B1 : Hid (Abv W X1) := Lib.hid (bnext (drew_same _) bh)
  obtain ⟨Ah, ch, eh, _, _⟩ := rh.slice
  obtain ⟨nh, Hnh⟩ : ∃ x, Hid (h.length = x) := ⟨_, Lib.hid rfl⟩
  rw [Hnh.out] at eh
  subst eh
  have Rh := Lib.hid rh
  have Gh := Lib.hid gh
  refine ⟨_, rfl, hK _ _ (cls B1.out) ?_⟩
  clear hK K rh gh bh
  refine mix1 rfl (fun K hK => ?_)
  go_simp
  refine (Clone_any X1 A2 n2 c2 ws ((H2.out.below HB.out).below B1.out) Hn2.out).mono ?_
  rintro e X2 ⟨vw, rfl, rw2, gw, bw⟩
  have B2 : Hid (Abv W X2) := Lib.hid (bnext B1.out bw)
  obtain ⟨Aw, cw, ew, _, _⟩ := rw2.slice
  obtain ⟨nw, Hnw⟩ : ∃ x, Hid (ws.length = x) := ⟨_, Lib.hid rfl⟩
  rw [Hnw.out] at ew
  subst ew
  have Rw := Lib.hid rw2
  have Gw := Lib.hid gw
  have Rh2 := Lib.hid (Rh.out.below bw)
  refine ⟨_, rfl, hK _ _ (cls B2.out) ?_⟩
  clear hK K rw2 gw bw
  repeat (refine mix0 rfl (fun K hK => ?_); go_simp; refine hK _ ?_; clear hK K)
  refine mix1 rfl (fun K hK => ?_)
  go_simp
  obtain ⟨L, HL⟩ : ∃ W, Hid (X2.heap.size = W) := ⟨_, Lib.hid rfl⟩
  obtain ⟨X3, HX3⟩ : ∃ W, Hid (X2.alloc (.cells #[.slice Ah nh ch, .slice Aw nw cw] 128) = W) := ⟨_, Lib.hid rfl⟩
  have B23 : Hid (Below X2.heap.size X2 X3) := Lib.hid (by rw [← HX3.out]; exact balloc (Below.refl _ _) _)
  have B3 : Hid (Abv W X3) := Lib.hid (bnext B2.out B23.out)
  rw [HL.out, HX3.out]
  refine hK _ _ (cls B3.out) ?_
  clear hK K q0 q1
  repeat (refine mix0 rfl (fun K hK => ?_); go_simp; refine hK _ ?_; clear hK K)
  refine mixEnd ?_
  have L3 : Hid (Ln X3 L (.slice Ah nh ch) (.slice Aw nw cw) h ws) := Lib.hid (by
    have l1 : ∀ g, blk (.slice Ah nh ch) = some g → g < X1.heap.size := fun g hg => Rh.out.lt hg
    have l2 : ∀ g, blk (.slice Aw nw cw) = some g → X1.heap.size ≤ g ∧ g < X2.heap.size := fun g hg => ⟨Gw.out g hg, Rw.out.lt hg⟩
    have l3 : ∀ g, blk (.slice Ah nh ch) = some g → g < X2.heap.size := fun g hg => Rh2.out.lt hg
    have hL := HL.out
    refine ⟨?_, ?_, ?_, ?_, Rh2.out.below B23.out, Rw.out.below B23.out, fun e => ?_, fun e => ?_, fun g hg e => ?_⟩
    · rw [← HX3.out, ← HL.out]; simp [go_sem]
    · rw [← HX3.out, ← HL.out]; simp [go_sem]
    · rw [← HX3.out, ← HL.out]; simp [go_sem]
    · rw [← HX3.out, ← HL.out]; simp [go_sem]
    · have := l3 _ e; omega
    · have := l2 _ e; omega
    · have := l1 g hg
      have := l2 g e
      omega)
  have LW : Hid (W.heap.size ≤ L) := Lib.hid (by rw [← HL.out]; exact B2.out.size)
  have GhW : Hid (∀ g, blk (.slice Ah nh ch) = some g → W.heap.size ≤ g) := Lib.hid (fun g hg => Gh.out g hg)
  have GwW : Hid (∀ g, blk (.slice Aw nw cw) = some g → W.heap.size ≤ g) := Lib.hid (fun g hg => Nat.le_trans B1.out.size (Gw.out g hg))
  have y0 := (B3.out.cell (p := ⟨p, 0, none⟩) (by have := Hpl.out; show p < _; omega)).trans Y0.out
  have y1 := (B3.out.cell (p := ⟨p, 1, none⟩) (by have := Hpl.out; show p < _; omega)).trans Y1.out
  go_wp2_with fail
  refine (Check_any X3 (.agg #[.slice A n c, .slice A2 n2 c2]) h ws ⟨A, n, c, A2, n2, c2, rfl, (H1.out.below HB.out).below B3.out, (H2.out.below HB.out).below B3.out⟩ Ok.out).mono ?_
  rintro e X4 ⟨rfl, hb⟩
  have B34 := Lib.hid hb
  have B4 : Hid (Abv W X4) := Lib.hid (bnext B3.out hb)
  have L4 := Lib.hid (L3.out.below hb)
  clear hb y0 y1
  go_wp2_with fail
  refine (there_any X4 node).mono ?_
  obtain ⟨TH, HTH⟩ : ∃ x, Hid (thereB node = x) := ⟨_, Lib.hid rfl⟩
  rw [HTH.out]
  rintro e X5 ⟨rfl, rfl⟩
  cases TH
  · have z0 := (B4.out.cell (p := ⟨p + 1, 0, none⟩) Hpl.out).trans Z0.out
    have z1 := (B4.out.cell (p := ⟨p + 1, 1, none⟩) Hpl.out).trans Z1.out
    have f0 := (B4.out.frozen (p := ⟨p + 1, 0, none⟩) Hpl.out).trans F0.out
    have f1 := (B4.out.frozen (p := ⟨p + 1, 1, none⟩) Hpl.out).trans F1.out
    have s0 := L4.out.c0
    have s1 := L4.out.c1
    have Hc := Lib.hid (And.intro z0 (And.intro z1 (And.intro f0 f1)))
    have HR : Hid (RH = h ∧ RW = ws ∧ RT = []) := Lib.hid (by rw [← HRH.out, ← HRW.out, ← HRT.out, HTH.out]; simp)
    go_wp2
    have e0 : ((X4.setCell ⟨p + 1, 0, none⟩ (.slice Ah nh ch)).setCell ⟨p + 1, 1, none⟩ (.slice Aw nw cw)).cell? ⟨p + 1, 0, none⟩ = some (.slice Ah nh ch) := set_other (by simp) (set_same Hc.out.1)
    have e1 : ((X4.setCell ⟨p + 1, 0, none⟩ (.slice Ah nh ch)).setCell ⟨p + 1, 1, none⟩ (.slice Aw nw cw)).cell? ⟨p + 1, 1, none⟩ = some (.slice Aw nw cw) := set_same (set_other (by simp) Hc.out.2.1)
    refine bodyPost_ret (v := .tuple #[.agg #[.slice Ah nh ch, .slice Aw nw cw], .slice none 0 0]) ?_ rfl ⟨_, _, rfl, ?_, ?_, ?_⟩
    · rw [results_cell_tmp rfl]
      go_simp
    · rw [HR.out.1, HR.out.2.1]
      refine (L4.out.later (S := (· = p + 1)) (((Mod.refl _ X4).set1 _).set1 _) ?_ ?_ ?_).isQ
      · have := LW.out; have := Hpl.out; omega
      · intro g hg e; have := GhW.out g hg; have := Hpl.out; omega
      · intro g hg e; have := GwW.out g hg; have := Hpl.out; omega
    · rw [HR.out.2.2]
      exact (RC.nil _).isS
    · refine bmod (bmod (bnext HB.out B4.out) ((Mod.refl (· = p + 1) X4).set1 _) ?_) ((Mod.refl (· = p + 1) _).set1 _) ?_
      · have := Hp.out; omega
      · have := Hp.out; omega
  · go_wp2_with fail
    refine (Hdo.out HTH.out X4 L _ _ L4.out).mono ?_
    rintro e X6 ⟨T, v1', v2', rfl, d6⟩
    have D6 := Lib.hid d6
    have M6 : Hid (Mod (fun g => W.heap.size ≤ g) X4 X6) := Lib.hid (d6.mod.mono fun g _ hg => hg.elim (fun e => e ▸ LW.out) (fun e => e.elim (GhW.out g) (GwW.out g)))
    have M6b := Lib.hid d6.mod
    clear d6
    go_wp2_with fail
    refine (serve_any X6 L v1' v2' h1 ws1 D6.out.line hh1 hw1).mono ?_
    rintro e X7 ⟨T7, v17, v27, rfl, d7⟩
    have D7 := Lib.hid d7
    clear d7
    have HT7 : Hid (RC X7 T t1) := Lib.hid (D6.out.told.later D7.out.mod (fun g hg e => by
      have a := D6.out.apart g hg
      rcases e with e | e | e
      · exact a.2.1 e
      · exact a.2.2.1 e
      · exact a.2.2.2 e))
    obtain ⟨A7, c7, e7, _, I7⟩ := D7.out.told.slice
    obtain ⟨nS, HnS⟩ : ∃ x, Hid ((srv h1 ws1).length = x) := ⟨_, Lib.hid rfl⟩
    rw [HnS.out] at e7 I7
    subst e7
    have hsl : nS ≤ 100 := by rw [← HnS.out]; exact Nat.le_trans (srv_le ws1 h1) hw1
    obtain ⟨v8, X8, hr8, r8, a8⟩ := appC HT7.out I7 (c := c7) (by omega) 55
    have Hr8 := Lib.hid hr8
    obtain ⟨A8, c8, e8, _, _⟩ := r8.slice
    have hTlt : ∀ g, blk T = some g → g < X6.heap.size := fun g hg => D6.out.told.lt hg
    have hL8 : Ln X8 L v17 v27 (givesM h1 (srv h1 ws1)) (ws1.drop (srv h1 ws1).length) := D7.out.line.later a8.mod (fun e => (D6.out.apart L e).2.1 rfl) (fun g hg e => (D7.out.n1.not (hTlt g e) (D6.out.apart g e).2.2.1) hg) (fun g hg e => (D7.out.n2.not (hTlt g e) (D6.out.apart g e).2.2.2) hg)
    have HR : Hid (RH = givesM h1 (srv h1 ws1) ∧ RW = ws1.drop (srv h1 ws1).length ∧ RT = t1 ++ srv h1 ws1) := Lib.hid (by rw [← HRH.out, ← HRW.out, ← HRT.out, HTH.out]; simp)
    rw [← HR.out.1, ← HR.out.2.1] at hL8
    rw [← HR.out.2.2] at r8 e8
    obtain ⟨n8, Hn8⟩ : ∃ x, Hid (RT.length = x) := ⟨_, Lib.hid rfl⟩
    rw [Hn8.out] at e8
    have n17 : Nb X4 (.slice Ah nh ch) v17 := Nb.trans D6.out.n1 D6.out.mod.size D7.out.n1
    have n27 : Nb X4 (.slice Aw nw cw) v27 := Nb.trans D6.out.n2 D6.out.mod.size D7.out.n2
    have hW17 : ∀ g, blk v17 = some g → W.heap.size ≤ g := fun g hg => by
      rcases n17 with e | ⟨g', e, h'⟩
      · exact GhW.out g (e ▸ hg)
      · rw [e] at hg; injection hg with hg; have := B4.out.size; omega
    have hW27 : ∀ g, blk v27 = some g → W.heap.size ≤ g := fun g hg => by
      rcases n27 with e | ⟨g', e, h'⟩
      · exact GwW.out g (e ▸ hg)
      · rw [e] at hg; injection hg with hg; have := B4.out.size; omega
    have hv1' : ∀ g, blk v1' = some g → W.heap.size ≤ g := fun g hg => by
      rcases D6.out.n1 with e | ⟨g', e, h'⟩
      · exact GhW.out g (e ▸ hg)
      · rw [e] at hg; injection hg with hg; have := B4.out.size; omega
    have hv2' : ∀ g, blk v2' = some g → W.heap.size ≤ g := fun g hg => by
      rcases D6.out.n2 with e | ⟨g', e, h'⟩
      · exact GwW.out g (e ▸ hg)
      · rw [e] at hg; injection hg with hg; have := B4.out.size; omega
    have m68 : Mod (fun g => W.heap.size ≤ g) X6 X8 := (D7.out.mod.mono fun g _ hg => hg.elim (fun e => e ▸ LW.out) (fun e => e.elim (hv1' g) (hv2' g))).trans (a8.mod.mono fun g _ hg => by have := (D6.out.apart g hg).1; have := B4.out.size; omega)
    have m8 : Mod (fun g => W.heap.size ≤ g) X4 X8 := M6.out.trans m68
    have B8 : Hid (Abv W X8) := Lib.hid (Mod.below B4.out m8 B4.out.size (fun _ h => h))
    have HT8 : Hid (∀ g, blk v8 = some g → W.heap.size ≤ g) := Lib.hid (fun g hg => by
      rcases a8.blk with e | ⟨g', e, h'⟩
      · have := (D6.out.apart g (e ▸ hg)).1; have := B4.out.size; omega
      · rw [e] at hg; injection hg with hg; have := B4.out.size; have := M6.out.size; have := D7.out.mod.size; omega)
    obtain ⟨Ax, cx, ex, _, _⟩ := hL8.has.slice
    obtain ⟨nx, Hnx⟩ : ∃ x, Hid (RH.length = x) := ⟨_, Lib.hid rfl⟩
    rw [Hnx.out] at ex
    obtain ⟨Ay, cy, ey, _, _⟩ := hL8.waits.slice
    obtain ⟨ny, Hny⟩ : ∃ x, Hid (RW.length = x) := ⟨_, Lib.hid rfl⟩
    rw [Hny.out] at ey
    subst ex ey e8
    have L8 := Lib.hid hL8
    have R8 := Lib.hid r8
    have HW17 := Lib.hid hW17
    have HW27 := Lib.hid hW27
    have z0 := (B8.out.cell (p := ⟨p + 1, 0, none⟩) Hpl.out).trans Z0.out
    have z1 := (B8.out.cell (p := ⟨p + 1, 1, none⟩) Hpl.out).trans Z1.out
    have f0 := (B8.out.frozen (p := ⟨p + 1, 0, none⟩) Hpl.out).trans F0.out
    have f1 := (B8.out.frozen (p := ⟨p + 1, 1, none⟩) Hpl.out).trans F1.out
    have Hc := Lib.hid (And.intro z0 (And.intro z1 (And.intro f0 f1)))
    have s0 := hL8.c0
    have s1 := hL8.c1
    clear hL8 r8 a8 hr8 m68 m8 hv1' hv2' hW17 hW27 n17 n27 hTlt hsl I7
    go_wp2_with (at_builtin; refine wpList_append_run rfl (.tmp 35) (.tmp 37) 55 rfl (by exact Hr8.out) ?_)
    have e0 : ((X8.setCell ⟨p + 1, 0, none⟩ (.slice Ax nx cx)).setCell ⟨p + 1, 1, none⟩ (.slice Ay ny cy)).cell? ⟨p + 1, 0, none⟩ = some (.slice Ax nx cx) := set_other (by simp) (set_same Hc.out.1)
    have e1 : ((X8.setCell ⟨p + 1, 0, none⟩ (.slice Ax nx cx)).setCell ⟨p + 1, 1, none⟩ (.slice Ay ny cy)).cell? ⟨p + 1, 1, none⟩ = some (.slice Ay ny cy) := set_same (set_other (by simp) Hc.out.2.1)
    have mm : Mod (· = p + 1) X8 ((X8.setCell ⟨p + 1, 0, none⟩ (.slice Ax nx cx)).setCell ⟨p + 1, 1, none⟩ (.slice Ay ny cy)) := ((Mod.refl _ X8).set1 _).set1 _
    refine bodyPost_ret (v := .tuple #[.agg #[.slice Ax nx cx, .slice Ay ny cy], .slice A8 n8 c8]) ?_ rfl ⟨_, _, rfl, ?_, ?_, ?_⟩
    · rw [results_cell_tmp rfl]
      go_simp
    · refine (L8.out.later mm ?_ ?_ ?_).isQ
      · have := LW.out; have := Hpl.out; omega
      · intro g hg e; have := HW17.out g hg; have := Hpl.out; omega
      · intro g hg e; have := HW27.out g hg; have := Hpl.out; omega
    · exact (R8.out.later mm (fun g hg e => by have := HT8.out g hg; have := Hpl.out; omega)).isS
    · refine bmod (bmod (bnext HB.out B8.out) ((Mod.refl (· = p + 1) X8).set1 _) ?_) ((Mod.refl (· = p + 1) _).set1 _) ?_
      · have := Hp.out; omega
      · have := Hp.out; omega
end Go.Proofs.Ythpmodohfjjjcaa
