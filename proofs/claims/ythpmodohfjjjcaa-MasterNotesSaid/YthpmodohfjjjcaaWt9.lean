/- What a node asks for, done to a line: want. -/
import Derived.Test.YthpmodohfjjjcaaDo9
import Derived.Test.YthpmodohfjjjcaaMixY
namespace Go.Proofs.Ythpmodohfjjjcaa
open Go.RowKit

theorem Ln.turn {w w2 : World} {L : Nat} {v1 v2 : Value} {h ws ws' : List Cl} (x : Ln w L v1 v2 h ws) (m : Mod (fun g => blk v2 = some g) w w2) (r : RC w2 v2 ws') : Ln w2 L v1 v2 h ws' :=
  ⟨(m.cell (p := ⟨L, 0, none⟩) x.lt x.d2).trans x.c0, (m.cell (p := ⟨L, 1, none⟩) x.lt x.d2).trans x.c1, (m.frozen (p := ⟨L, 0, none⟩) x.lt x.d2).trans x.f0, (m.frozen (p := ⟨L, 1, none⟩) x.lt x.d2).trans x.f1, x.has.later m (fun g hg e => x.d g hg e), r, x.d1, x.d2, x.d⟩
theorem one_wf {z m : Int} (h : (Lit.int .i64 z).wf = true ∧ (Lit.int .i64 m).wf = true) : wfC [((z, m) : Cl)] := fun c hc => by simp at hc; subst hc; exact h
theorem IsC.later_one {w w' : World} {b : Nat} {l : List Cl} {v : Value} (h : IsC w (some ⟨b, 0, none⟩) 1 l) (m : Mod (fun g => blk v = some g) w w') (hb : blk v ≠ some b) : IsC w' (some ⟨b, 0, none⟩) 1 l :=
  ⟨h.length, h.max, h.wf, fun h0 => by
    obtain ⟨g, off, e, hg, hc⟩ := h.cells h0
    injection e with e
    injection e with e1 e2
    subst e1 e2
    refine ⟨b, 0, rfl, Nat.lt_of_lt_of_le hg m.size, fun i c hi => ?_⟩
    obtain ⟨c0, c1⟩ := hc i c hi
    exact ⟨(m.cell (p := ⟨b, 0 + i * 2, none⟩) hg hb).trans c0, (m.cell (p := ⟨b, 0 + i * 2 + 1, none⟩) hg hb).trans c1⟩⟩
/-- A row of one claim, just made. -/
theorem RC.one (w : World) (c : Cl) (h : (Lit.int .i64 c.1).wf = true ∧ (Lit.int .i64 c.2).wf = true) : RC (w.alloc (.cells #[.int .i64 c.1, .int .i64 c.2] 61)) (.slice (some ⟨w.heap.size, 0, none⟩) 1 1) [c] := by
  have := Cs.new w [c] 1 (by simp) (by decide) [] rfl
  exact ⟨fun x hx => by simp at hx; subst hx; exact h, .inr ⟨w.heap.size, 0, 1, rfl, this⟩⟩
set_option maxHeartbeats 2000000 in
set_option maxRecDepth 100000 in
theorem want_any (w : World) (L : Nat) (v1 v2 : Value) (h ws : List Cl) (x : Ln w L v1 v2 h ws) (z m : Int) (hz0 : 0 ≤ z) (hz1 : z < 8) (hn : ws.length ≤ 800) :
    Calls Try.prog 81 #[.pointer (some ⟨L, 0, none⟩), .int .i64 z, .int .i64 m] w fun e w' => ∃ T v1' v2', e = .returned T ∧ Done w w' L v1 v2 v1' v2' T h (wantM h ws z m).1 (wantM h ws z m).2 := by
  obtain ⟨A, c, e1, hc, hI⟩ := x.has.slice
  subst e1
  obtain ⟨A2, c2, e2, hc2, hI2⟩ := x.waits.slice
  subst e2
  have X := Lib.hid x
  have HI := Lib.hid hI
  have HI2 := Lib.hid hI2
  have hl := x.lt
  have t0 := x.c0
  obtain ⟨n, Hn⟩ : ∃ n, Hid (h.length = n) := ⟨_, Lib.hid rfl⟩
  obtain ⟨n2, Hn2⟩ : ∃ n, Hid (ws.length = n) := ⟨_, Lib.hid rfl⟩
  rw [Hn.out, Hn2.out] at X
  rw [Hn.out] at HI t0 ⊢
  rw [Hn2.out] at HI2 ⊢
  obtain ⟨S, HS⟩ : ∃ x, Hid (somB m = x) := ⟨_, Lib.hid rfl⟩
  obtain ⟨M, HM⟩ : ∃ x, Hid (modeM h z = x) := ⟨_, Lib.hid rfl⟩
  obtain ⟨C, HC⟩ : ∃ x, Hid (covB M m = x) := ⟨_, Lib.hid rfl⟩
  obtain ⟨Z, HZ⟩ : ∃ x, Hid (idxM (ofQ z) ws = x) := ⟨_, Lib.hid rfl⟩
  clear x hI hI2 hc hc2
  cases S
  · have Hd : Hid (wantM h ws z m = (ws, [])) := Lib.hid (by rw [wantM, if_pos HS.out])
    rw [Hd.out]
    go_enter Try.func81, Try.ntmps81
    go_wp2_with fail
    refine (some_any _ m).mono ?_
    rw [HS.out]
    rintro e w1 ⟨rfl, hb1⟩
    have HB1 := Lib.hid hb1
    clear hb1
    go_wp2
    go_ret
    exact ⟨.slice none 0 0, _, _, rfl, X.out.below HB1.out, RC.nil _, fun g hg => (by cases hg), Mod.of_below HB1.out, .inl rfl, .inl rfl⟩
  · cases C
    · have Hwf : Hid ((Lit.int .i64 z).wf = true ∧ (Lit.int .i64 m).wf = true) := Lib.hid ⟨wf_small hz0 hz1, mode_wf (cov_mode HS.out).1⟩
      go_enter Try.func81, Try.ntmps81
      go_wp2_with fail
      refine (some_any _ m).mono ?_
      rw [HS.out]
      rintro e w1 ⟨rfl, hb1⟩
      have HB1 := Lib.hid hb1
      have t1 := (hb1.cell (p := ⟨L, 0, none⟩) hl).trans t0
      clear hb1 t0
      go_wp2_with fail
      refine (modeIn_any w1 A n c h (HI.out.below HB1.out) z).mono ?_
      rw [HM.out]
      rintro e w2 ⟨rfl, hb1⟩
      have HB2 := Lib.hid (bnext HB1.out hb1)
      clear hb1 t1
      go_wp2_with fail
      refine (Covers_any _ M m).mono ?_
      rw [HC.out]
      rintro e w3 ⟨rfl, hb1⟩
      have HB3 := Lib.hid (bnext HB2.out hb1)
      clear hb1
      go_wp2_with fail
      obtain ⟨W, HW⟩ : ∃ W, Hid (w3.alloc (.cells #[.int .i64 z, .int .i64 m] 61) = W) := ⟨_, Lib.hid rfl⟩
      obtain ⟨p, Hp⟩ : ∃ p, Hid (w3.heap.size = p) := ⟨_, Lib.hid rfl⟩
      rw [HW.out, Hp.out]
      have HBW : Hid (Below w.heap.size w W) := Lib.hid (by rw [← HW.out]; exact balloc HB3.out _)
      have HXW := Lib.hid (X.out.below HBW.out)
      have Hpw : Hid (w.heap.size ≤ p ∧ p < W.heap.size) := Lib.hid (by rw [← Hp.out, ← HW.out]; exact ⟨HB3.out.size, by simp⟩)
      have y0 : W.cell? ⟨p, 0, none⟩ = some (.int .i64 z) := by rw [← HW.out, ← Hp.out]; simp [go_sem]
      have y1 : W.cell? ⟨p, 1, none⟩ = some (.int .i64 m) := by rw [← HW.out, ← Hp.out]; simp [go_sem]
      have Hy0 := Lib.hid y0
      have Hy1 := Lib.hid y1
      have q0 : ∀ y : In (Abv W), y.u.cell? ⟨L, 1, none⟩ = some (.slice A2 n2 c2) := fun y => (y.is.cell (p := ⟨L, 1, none⟩) HXW.out.lt).trans HXW.out.c1
      clear y0 y1
      refine wp_region_mix (by kernel_rfl) (Cls (Abv W)) [(0, 0), (1, 0), (2, 0), (3, 0), (4, 0), (5, 1), (6, 1), (7, 0)] (by kernel_rfl) (cls (Below.refl _ W).drew) ?_
      repeat (refine mix0 rfl (fun K hK => ?_); go_simp; refine hK _ ?_; clear hK K)
      refine mix1 rfl (fun K hK => ?_)
      go_simp
      refine (of_any _ z).mono ?_
      rintro e w4 ⟨rfl, rfl⟩
      obtain ⟨q, Hq⟩ : ∃ q, Hid (W.drew.heap.size = q) := ⟨_, Lib.hid rfl⟩
      obtain ⟨W4, HW4⟩ : ∃ W1, Hid (W.drew.alloc (.cells #[.int .i64 z] 3) = W1) := ⟨_, Lib.hid rfl⟩
      have HB4 : Hid (Abv W W4) := Lib.hid (by rw [← HW4.out]; exact balloc (Below.refl _ _).drew _)
      have Hz4 : Hid (W4.cell? ⟨q, 0, none⟩ = some (.int .i64 z)) := Lib.hid (by rw [← HW4.out, ← Hq.out]; simp [go_sem])
      rw [Hq.out, HW4.out]
      refine ⟨_, rfl, hK _ _ (cls HB4.out) ?_⟩
      clear hK K
      refine mix1 rfl (fun K hK => ?_)
      go_simp
      refine (of_index W4 A2 n2 c2 ws (HI2.out.below (bnext HBW.out HB4.out)) q z Hz4.out).mono ?_
      rw [HZ.out]
      rintro e W5 ⟨rfl, h5⟩
      have HB5 : Hid (Abv W W5) := Lib.hid (bnext HB4.out h5)
      clear h5
      refine ⟨_, rfl, hK _ _ (cls HB5.out) ?_⟩
      clear hK K
      repeat (refine mix0 rfl (fun K hK => ?_); go_simp; refine hK _ ?_; clear hK K)
      refine mixEnd ?_
      clear q0
      have HX5 := Lib.hid (HXW.out.below HB5.out)
      have HBt : Hid (Below w.heap.size w W5) := Lib.hid (bnext HBW.out HB5.out)
      by_cases hZ : Z = 0
      · have hZb : (Z == 0) = true := by simpa using hZ
        have Hd : Hid (wantM h ws z m = (ws.set 0 (z, m), [])) := Lib.hid (by rw [wantM, if_neg (by rw [HS.out]; decide), HM.out, if_neg (by rw [HC.out]; decide), HZ.out, if_pos hZ])
        rcases HX5.out.waits.is with ⟨e, e0⟩ | ⟨g, off, cap, e, hcs⟩
        · exfalso
          have := HZ.out
          rw [e0, hZ] at this
          simp [idxM] at this
        · have hwne : 0 < ws.length := by
            rcases Nat.eq_zero_or_pos ws.length with h0 | h0
            · have := HZ.out
              rw [List.eq_nil_of_length_eq_zero h0, hZ] at this
              simp [idxM] at this
            · exact h0
          injection e with e1 e2 e3
          subst e1 e3
          clear e2
          have hcl := hcs.len
          rw [Hn2.out] at hcl
          have hw2 : 0 < n2 := by rw [← Hn2.out]; exact hwne
          obtain ⟨u0, h0⟩ := Option.isSome_iff_exists.1 (hcs.there 0 (by omega))
          obtain ⟨u1, h1⟩ := Option.isSome_iff_exists.1 (hcs.there 1 (by omega))
          have f0 := hcs.free 0 (by omega)
          have f1 := hcs.free 1 (by omega)
          rw [Nat.add_zero] at h0 f0
          have hset := hcs.set (i := 0) hwne (z, m)
          simp only [Nat.zero_mul, Nat.add_zero] at hset
          obtain ⟨W8, HW8⟩ : ∃ W8, Hid ((W5.setCell ⟨g, off, none⟩ (.int .i64 z)).setCell ⟨g, off + 1, none⟩ (.int .i64 m) = W8) := ⟨_, Lib.hid rfl⟩
          have HM8 : Hid (Mod (· = g) W5 W8) := Lib.hid (by rw [← HW8.out]; exact ((Mod.refl _ _).set1 _).set1 _)
          have HR8 : Hid (RC W8 (.slice (some ⟨g, off, none⟩) n2 c2) (ws.set 0 (z, m))) := Lib.hid (by
            rw [HW8.out] at hset
            refine ⟨fun c hc => ?_, .inr ⟨g, off, c2, by rw [List.length_set, Hn2.out], hset⟩⟩
            rcases List.mem_or_eq_of_mem_set hc with h1 | h1
            · exact HX5.out.waits.wf c h1
            · subst h1; exact Hwf.out)
          have HX8 := Lib.hid (HX5.out.turn (HM8.out.mono (fun q _ hq => by simp [blk, hq])) HR8.out)
          have q1 : ∀ y : In (Abv W5), y.u.cell? ⟨L, 1, none⟩ = some (.slice (some ⟨g, off, none⟩) n2 c2) := fun y => (y.is.cell (p := ⟨L, 1, none⟩) HX5.out.lt).trans HX5.out.c1
          have hpw5 : p < W5.heap.size := Nat.lt_of_lt_of_le Hpw.out.2 HB5.out.size
          have k0 := (HB5.out.cell (p := ⟨p, 0, none⟩) Hpw.out.2).trans Hy0.out
          have k1 := (HB5.out.cell (p := ⟨p, 1, none⟩) Hpw.out.2).trans Hy1.out
          have q2 : ∀ y : In (Abv W5), y.u.cell? ⟨p, 0, none⟩ = some (.int .i64 z) := fun y => (y.is.cell (p := ⟨p, 0, none⟩) hpw5).trans k0
          have q3 : ∀ y : In (Abv W5), y.u.cell? ⟨p, 1, none⟩ = some (.int .i64 m) := fun y => (y.is.cell (p := ⟨p, 1, none⟩) hpw5).trans k1
          have hn0 : (0 : Int) < (n2 : Int) := by omega
          have hn1 : 0 < n2 := by omega
          clear hset hcs k0 k1 hZ hcl hwne hpw5
          go_wp2_with fail
          refine wp_region_mix (by kernel_rfl) (Cls (Abv W5)) [(0, 0), (1, 0), (2, 0), (3, 0), (4, 0), (5, 0), (6, 2)] (by kernel_rfl) (cls (Below.refl _ W5).drew) ?_
          repeat (refine mix0 rfl (fun K hK => ?_); go_simp; refine hK _ ?_; clear hK K)
          refine mix2 rfl (fun K hK => ?_); go_simp
          rw [HW8.out]
          refine hK _ _ ?_
          clear hK K q1 q2 q3 h0 h1 f0 f1
          refine mixEnd ?_
          go_wp2
          go_ret
          refine ⟨.slice none 0 0, .slice A n c, .slice (some ⟨g, off, none⟩) n2 c2, rfl, ?_⟩
          rw [Hd.out]
          exact ⟨HX8.out.below (drew_same _), RC.nil _, fun g hg => (by cases hg), ((Mod.of_below HBt.out).trans (HM8.out.mono (fun q _ hq => .inr (.inr (by simp [blk, hq]))))).drew, .inl rfl, .inl rfl⟩
      · have hZb : (Z == 0) = false := by simpa using hZ
        have Hd : Hid (wantM h ws z m = (delM ws z ++ [(z, m)], [])) := Lib.hid (by rw [wantM, if_neg (by rw [HS.out]; decide), HM.out, if_neg (by rw [HC.out]; decide), HZ.out, if_neg hZ])
        have hpw5 : p < W5.heap.size := Nat.lt_of_lt_of_le Hpw.out.2 HB5.out.size
        have Hp2 : Hid (blk (.slice A2 n2 c2) ≠ some p) := Lib.hid (fun e => by have := X.out.waits.lt e; have := Hpw.out.1; omega)
        have y0 := (HB5.out.cell (p := ⟨p, 0, none⟩) Hpw.out.2).trans Hy0.out
        have y1 := (HB5.out.cell (p := ⟨p, 1, none⟩) Hpw.out.2).trans Hy1.out
        have q0 : ∀ y : In (Mdb W5 (.slice A2 n2 c2)), y.u.cell? ⟨L, 1, none⟩ = some (.slice A2 n2 c2) := fun y => (y.is.cell (p := ⟨L, 1, none⟩) HX5.out.lt HX5.out.d2).trans HX5.out.c1
        have q1 : ∀ y : In (Mdb W5 (.slice A2 n2 c2)), y.u.cell? ⟨p, 0, none⟩ = some (.int .i64 z) := fun y => (y.is.cell (p := ⟨p, 0, none⟩) hpw5 Hp2.out).trans y0
        have q2 : ∀ y : In (Mdb W5 (.slice A2 n2 c2)), y.u.cell? ⟨p, 1, none⟩ = some (.int .i64 m) := fun y => (y.is.cell (p := ⟨p, 1, none⟩) hpw5 Hp2.out).trans y1
        have Hlt : Hid (∀ g, blk (.slice A2 n2 c2) = some g → g < W5.heap.size) := Lib.hid (fun g hg => HX5.out.waits.lt hg)
        clear y0 y1 hpw5 hZ
        go_wp2_with fail
        refine wp_region_mixY (by kernel_rfl) (Cls (Mdb W5 (.slice A2 n2 c2))) 9 [(0, 0), (1, 0), (2, 0), (3, 0), (4, 0), (5, 0), (8, 0), (6, 1), (7, 1)] [(10, 1), (11, 0), (12, 0), (13, 2)] (by kernel_rfl) (cls (Mod.refl _ W5).drew) ?_
        obtain ⟨Y0, HY0⟩ : ∃ x, Hid (W5.drew = x) := ⟨_, Lib.hid rfl⟩
        have HM0 : Hid (Mdb W5 (.slice A2 n2 c2) Y0) := Lib.hid (by rw [← HY0.out]; exact (Mod.refl _ W5).drew)
        have HR0 : Hid (RC Y0 (.slice A2 n2 c2) ws) := Lib.hid (by rw [← HY0.out]; exact HX5.out.waits.below (drew_same _))
        rw [HY0.out]
        clear HY0
        repeat (refine mixY0 rfl (fun K hK => ?_); go_simp; refine hK _ ?_; clear hK K)
        clear q0 q1 q2
        refine mixY1 rfl rfl (fun K hK => ?_) (fun K hK => ?_)
        · go_simp
          obtain ⟨b9, Hb9⟩ : ∃ q, Hid (Y0.heap.size = q) := ⟨_, Lib.hid rfl⟩
          obtain ⟨Y1, HY1⟩ : ∃ x, Hid (Y0.alloc (.cells #[.int .i64 z, .int .i64 m] 61) = x) := ⟨_, Lib.hid rfl⟩
          have hbl : Below Y0.heap.size Y0 Y1 := by rw [← HY1.out]; exact balloc (Below.refl _ _) _
          have HM1 : Hid (Mdb W5 (.slice A2 n2 c2) Y1) := Lib.hid (HM0.out.trans (Mod.of_below hbl))
          have HR1 : Hid (RC Y1 (.slice A2 n2 c2) ws) := Lib.hid (HR0.out.below hbl)
          have Sg1 : Hid (IsC Y1 (some ⟨b9, 0, none⟩) 1 [(z, m)]) := Lib.hid (by rw [← HY1.out, ← Hb9.out]; exact (Sgl.new Y0 (z, m) Hwf.out).is)
          have Hb92 : Hid (blk (.slice A2 n2 c2) ≠ some b9) := Lib.hid (fun e => by have := Hlt.out _ e; have h2 := HM0.out.size; have h3 := Hb9.out; omega)
          rw [Hb9.out, HY1.out]
          refine hK _ _ (cls HM1.out) ?_
          clear hK K hbl
          refine mix1 rfl (fun K hK => ?_)
          go_simp
          refine (of_any _ z).mono ?_
          rintro e wc ⟨rfl, rfl⟩
          obtain ⟨q9, Hq9⟩ : ∃ q, Hid (Y1.heap.size = q) := ⟨_, Lib.hid rfl⟩
          obtain ⟨Y2, HY2⟩ : ∃ x, Hid (Y1.alloc (.cells #[.int .i64 z] 3) = x) := ⟨_, Lib.hid rfl⟩
          have hbl : Below Y1.heap.size Y1 Y2 := by rw [← HY2.out]; exact balloc (Below.refl _ _) _
          have HM2 : Hid (Mdb W5 (.slice A2 n2 c2) Y2) := Lib.hid (HM1.out.trans (Mod.of_below hbl))
          have HR2 : Hid (RC Y2 (.slice A2 n2 c2) ws) := Lib.hid (HR1.out.below hbl)
          have Sg2 : Hid (IsC Y2 (some ⟨b9, 0, none⟩) 1 [(z, m)]) := Lib.hid (Sg1.out.below hbl)
          have Hz2 : Hid (Y2.cell? ⟨q9, 0, none⟩ = some (.int .i64 z)) := Lib.hid (by rw [← HY2.out, ← Hq9.out]; simp [go_sem])
          have Hq92 : Hid (blk (.slice A2 n2 c2) ≠ some q9) := Lib.hid (fun e => by have := Hlt.out _ e; have h2 := HM1.out.size; have h3 := Hq9.out; omega)
          rw [Hq9.out, HY2.out]
          refine ⟨_, rfl, hK _ _ (cls HM2.out) ?_⟩
          clear hK K hbl
          refine mix1 rfl (fun K hK => ?_)
          go_simp
          refine (del_of Y2 (.slice A2 n2 c2) ws HR2.out q9 z Hz2.out Hq92.out).mono ?_
          rintro e Y3 ⟨v6, rfl, r6, b6, m6⟩
          obtain ⟨A6, c6, e6, _, _⟩ := r6.slice
          obtain ⟨l6, Hl6⟩ : ∃ l3, Hid (delM ws z = l3) := ⟨_, Lib.hid rfl⟩
          rw [Hl6.out] at e6 r6
          obtain ⟨n6, Hn6⟩ : ∃ n3, Hid (l6.length = n3) := ⟨_, Lib.hid rfl⟩
          rw [Hn6.out] at e6
          subst e6
          have R63 : Hid (RC Y3 (.slice A6 n6 c6) l6) := Lib.hid r6
          have B6 := Lib.hid b6
          have HM3 : Hid (Mdb W5 (.slice A2 n2 c2) Y3) := Lib.hid (HM2.out.trans m6)
          have Sg3 : Hid (IsC Y3 (some ⟨b9, 0, none⟩) 1 [(z, m)]) := Lib.hid (Sg2.out.later_one m6 Hb92.out)
          refine ⟨_, rfl, hK _ _ (cls HM3.out) ?_⟩
          clear hK K r6 b6 m6
          obtain ⟨v7, X7, hr7, r7, a7⟩ := appC R63.out (c := 1) Sg3.out (by rw [← Hl6.out]; have := delM_length ws z; omega) 55
          obtain ⟨A7, c7, e7, _, _⟩ := r7.slice
          obtain ⟨l7, Hl7⟩ : ∃ l3, Hid (l6 ++ [(z, m)] = l3) := ⟨_, Lib.hid rfl⟩
          rw [Hl7.out] at e7 r7
          obtain ⟨n7, Hn7⟩ : ∃ n3, Hid (l7.length = n3) := ⟨_, Lib.hid rfl⟩
          rw [Hn7.out] at e7
          subst e7
          have R7 := Lib.hid r7
          have A7' := Lib.hid a7
          have Hr7 := Lib.hid hr7
          have HM7' : Hid (Mdb W5 (.slice A2 n2 c2) X7) := Lib.hid (HM3.out.trans (a7.mod.mono fun g _ hg => B6.out ▸ hg))
          clear hr7 r7 a7
          refine mix_append rfl rfl (.tmp 49) (.tmp 51) 55 rfl (by exact Hr7.out) (cls HM7'.out) ?_
          repeat (refine mix0 rfl (fun K hK => ?_); go_simp; refine hK _ ?_; clear hK K)
          have s0 := (HM7'.out.cell (p := ⟨L, 1, none⟩) HX5.out.lt HX5.out.d2).trans HX5.out.c1
          have s1 := (HM7'.out.frozen (p := ⟨L, 1, none⟩) HX5.out.lt HX5.out.d2).trans HX5.out.f1
          refine mix2 rfl (fun K hK => ?_); go_simp; refine hK _ _ ?_; clear hK K
          refine mixEnd ?_
          have HNb : Hid (Nb W5 (.slice A2 n2 c2) (.slice A7 n7 c7)) := Lib.hid (Nb.trans (w2 := Y3) (.inl B6.out : Nb W5 (.slice A2 n2 c2) (.slice A6 n6 c6)) HM3.out.size A7'.out.blk)
          have HXE := Lib.hid (HX5.out.waits' HM7'.out R7.out HNb.out)
          have HME := Lib.hid (((Mod.of_below HBt.out).trans (HM7'.out.mono (fun g _ hg => (.inr (.inr hg) : g = L ∨ blk (.slice A n c) = some g ∨ blk (.slice A2 n2 c2) = some g)))).setCell (.inl (.inl rfl)) (p := ⟨L, 1, none⟩) (.slice A7 n7 c7))
          clear s0 s1
          go_wp2
          go_ret
          refine ⟨.slice none 0 0, .slice A n c, .slice A7 n7 c7, rfl, ?_⟩
          rw [Hd.out, Hl6.out, Hl7.out]
          exact ⟨HXE.out, RC.nil _, fun g hg => (by cases hg), HME.out, .inl rfl, Nb.from HBt.out.size HNb.out⟩
        · go_simp
          refine (of_any _ z).mono ?_
          rintro e wc ⟨rfl, rfl⟩
          obtain ⟨q9, Hq9⟩ : ∃ q, Hid (Y0.heap.size = q) := ⟨_, Lib.hid rfl⟩
          obtain ⟨Y4, HY4⟩ : ∃ x, Hid (Y0.alloc (.cells #[.int .i64 z] 3) = x) := ⟨_, Lib.hid rfl⟩
          have hbl : Below Y0.heap.size Y0 Y4 := by rw [← HY4.out]; exact balloc (Below.refl _ _) _
          have HM4 : Hid (Mdb W5 (.slice A2 n2 c2) Y4) := Lib.hid (HM0.out.trans (Mod.of_below hbl))
          have HR4 : Hid (RC Y4 (.slice A2 n2 c2) ws) := Lib.hid (HR0.out.below hbl)
          have Hz4 : Hid (Y4.cell? ⟨q9, 0, none⟩ = some (.int .i64 z)) := Lib.hid (by rw [← HY4.out, ← Hq9.out]; simp [go_sem])
          have Hq92 : Hid (blk (.slice A2 n2 c2) ≠ some q9) := Lib.hid (fun e => by have := Hlt.out _ e; have h2 := HM0.out.size; have h3 := Hq9.out; omega)
          rw [Hq9.out, HY4.out]
          refine ⟨_, rfl, hK _ _ (cls HM4.out) ?_⟩
          clear hK K hbl
          refine mixY1 rfl rfl (fun K hK => ?_) (fun K hK => ?_)
          · go_simp
            obtain ⟨b9, Hb9⟩ : ∃ q, Hid (Y4.heap.size = q) := ⟨_, Lib.hid rfl⟩
            obtain ⟨Y5, HY5⟩ : ∃ x, Hid (Y4.alloc (.cells #[.int .i64 z, .int .i64 m] 61) = x) := ⟨_, Lib.hid rfl⟩
            have hbl : Below Y4.heap.size Y4 Y5 := by rw [← HY5.out]; exact balloc (Below.refl _ _) _
            have HM5 : Hid (Mdb W5 (.slice A2 n2 c2) Y5) := Lib.hid (HM4.out.trans (Mod.of_below hbl))
            have HR5 : Hid (RC Y5 (.slice A2 n2 c2) ws) := Lib.hid (HR4.out.below hbl)
            have Hz5 : Hid (Y5.cell? ⟨q9, 0, none⟩ = some (.int .i64 z)) := Lib.hid ((hbl.cell (p := ⟨q9, 0, none⟩) (lt_of_cell Hz4.out)).trans Hz4.out)
            have Sg5 : Hid (IsC Y5 (some ⟨b9, 0, none⟩) 1 [(z, m)]) := Lib.hid (by rw [← HY5.out, ← Hb9.out]; exact (Sgl.new Y4 (z, m) Hwf.out).is)
            have Hb92 : Hid (blk (.slice A2 n2 c2) ≠ some b9) := Lib.hid (fun e => by have := Hlt.out _ e; have h2 := HM4.out.size; have h3 := Hb9.out; omega)
            rw [Hb9.out, HY5.out]
            refine hK _ _ (cls HM5.out) ?_
            clear hK K hbl
            refine mix1 rfl (fun K hK => ?_)
            go_simp
            refine (del_of Y5 (.slice A2 n2 c2) ws HR5.out q9 z Hz5.out Hq92.out).mono ?_
            rintro e Y6 ⟨v6, rfl, r6, b6, m6⟩
            obtain ⟨A6, c6, e6, _, _⟩ := r6.slice
            obtain ⟨l6, Hl6⟩ : ∃ l3, Hid (delM ws z = l3) := ⟨_, Lib.hid rfl⟩
            rw [Hl6.out] at e6 r6
            obtain ⟨n6, Hn6⟩ : ∃ n3, Hid (l6.length = n3) := ⟨_, Lib.hid rfl⟩
            rw [Hn6.out] at e6
            subst e6
            have R66 : Hid (RC Y6 (.slice A6 n6 c6) l6) := Lib.hid r6
            have B6 := Lib.hid b6
            have HM6 : Hid (Mdb W5 (.slice A2 n2 c2) Y6) := Lib.hid (HM5.out.trans m6)
            have Sg6 : Hid (IsC Y6 (some ⟨b9, 0, none⟩) 1 [(z, m)]) := Lib.hid (Sg5.out.later_one m6 Hb92.out)
            refine ⟨_, rfl, hK _ _ (cls HM6.out) ?_⟩
            clear hK K r6 b6 m6
            obtain ⟨v7, X7, hr7, r7, a7⟩ := appC R66.out (c := 1) Sg6.out (by rw [← Hl6.out]; have := delM_length ws z; omega) 55
            obtain ⟨A7, c7, e7, _, _⟩ := r7.slice
            obtain ⟨l7, Hl7⟩ : ∃ l3, Hid (l6 ++ [(z, m)] = l3) := ⟨_, Lib.hid rfl⟩
            rw [Hl7.out] at e7 r7
            obtain ⟨n7, Hn7⟩ : ∃ n3, Hid (l7.length = n3) := ⟨_, Lib.hid rfl⟩
            rw [Hn7.out] at e7
            subst e7
            have R7 := Lib.hid r7
            have A7' := Lib.hid a7
            have Hr7 := Lib.hid hr7
            have HM7' : Hid (Mdb W5 (.slice A2 n2 c2) X7) := Lib.hid (HM6.out.trans (a7.mod.mono fun g _ hg => B6.out ▸ hg))
            clear hr7 r7 a7
            refine mix_append rfl rfl (.tmp 49) (.tmp 51) 55 rfl (by exact Hr7.out) (cls HM7'.out) ?_
            repeat (refine mix0 rfl (fun K hK => ?_); go_simp; refine hK _ ?_; clear hK K)
            have s0 := (HM7'.out.cell (p := ⟨L, 1, none⟩) HX5.out.lt HX5.out.d2).trans HX5.out.c1
            have s1 := (HM7'.out.frozen (p := ⟨L, 1, none⟩) HX5.out.lt HX5.out.d2).trans HX5.out.f1
            refine mix2 rfl (fun K hK => ?_); go_simp; refine hK _ _ ?_; clear hK K
            refine mixEnd ?_
            have HNb : Hid (Nb W5 (.slice A2 n2 c2) (.slice A7 n7 c7)) := Lib.hid (Nb.trans (w2 := Y6) (.inl B6.out : Nb W5 (.slice A2 n2 c2) (.slice A6 n6 c6)) HM6.out.size A7'.out.blk)
            have HXE := Lib.hid (HX5.out.waits' HM7'.out R7.out HNb.out)
            have HME := Lib.hid (((Mod.of_below HBt.out).trans (HM7'.out.mono (fun g _ hg => (.inr (.inr hg) : g = L ∨ blk (.slice A n c) = some g ∨ blk (.slice A2 n2 c2) = some g)))).setCell (.inl (.inl rfl)) (p := ⟨L, 1, none⟩) (.slice A7 n7 c7))
            clear s0 s1
            go_wp2
            go_ret
            refine ⟨.slice none 0 0, .slice A n c, .slice A7 n7 c7, rfl, ?_⟩
            rw [Hd.out, Hl6.out, Hl7.out]
            exact ⟨HXE.out, RC.nil _, fun g hg => (by cases hg), HME.out, .inl rfl, Nb.from HBt.out.size HNb.out⟩
          · go_simp
            refine (del_of Y4 (.slice A2 n2 c2) ws HR4.out q9 z Hz4.out Hq92.out).mono ?_
            rintro e Y7 ⟨v6, rfl, r6, b6, m6⟩
            obtain ⟨A6, c6, e6, _, _⟩ := r6.slice
            obtain ⟨l6, Hl6⟩ : ∃ l3, Hid (delM ws z = l3) := ⟨_, Lib.hid rfl⟩
            rw [Hl6.out] at e6 r6
            obtain ⟨n6, Hn6⟩ : ∃ n3, Hid (l6.length = n3) := ⟨_, Lib.hid rfl⟩
            rw [Hn6.out] at e6
            subst e6
            have R67 : Hid (RC Y7 (.slice A6 n6 c6) l6) := Lib.hid r6
            have B6 := Lib.hid b6
            have HM7 : Hid (Mdb W5 (.slice A2 n2 c2) Y7) := Lib.hid (HM4.out.trans m6)
            refine ⟨_, rfl, hK _ _ (cls HM7.out) ?_⟩
            clear hK K r6 b6 m6
            refine mixYe rfl (fun K hK => ?_)
            go_simp
            obtain ⟨b9, Hb9⟩ : ∃ q, Hid (Y7.heap.size = q) := ⟨_, Lib.hid rfl⟩
            obtain ⟨Y8, HY8⟩ : ∃ x, Hid (Y7.alloc (.cells #[.int .i64 z, .int .i64 m] 61) = x) := ⟨_, Lib.hid rfl⟩
            have hbl : Below Y7.heap.size Y7 Y8 := by rw [← HY8.out]; exact balloc (Below.refl _ _) _
            have HM8 : Hid (Mdb W5 (.slice A2 n2 c2) Y8) := Lib.hid (HM7.out.trans (Mod.of_below hbl))
            have R68 : Hid (RC Y8 (.slice A6 n6 c6) l6) := Lib.hid (R67.out.below hbl)
            have Sg8 : Hid (IsC Y8 (some ⟨b9, 0, none⟩) 1 [(z, m)]) := Lib.hid (by rw [← HY8.out, ← Hb9.out]; exact (Sgl.new Y7 (z, m) Hwf.out).is)
            have Hb92 : Hid (blk (.slice A2 n2 c2) ≠ some b9) := Lib.hid (fun e => by have := Hlt.out _ e; have h2 := HM7.out.size; have h3 := Hb9.out; omega)
            rw [Hb9.out, HY8.out]
            refine hK _ _ (cls HM8.out) ?_
            clear hK K hbl
            obtain ⟨v7, X7, hr7, r7, a7⟩ := appC R68.out (c := 1) Sg8.out (by rw [← Hl6.out]; have := delM_length ws z; omega) 55
            obtain ⟨A7, c7, e7, _, _⟩ := r7.slice
            obtain ⟨l7, Hl7⟩ : ∃ l3, Hid (l6 ++ [(z, m)] = l3) := ⟨_, Lib.hid rfl⟩
            rw [Hl7.out] at e7 r7
            obtain ⟨n7, Hn7⟩ : ∃ n3, Hid (l7.length = n3) := ⟨_, Lib.hid rfl⟩
            rw [Hn7.out] at e7
            subst e7
            have R7 := Lib.hid r7
            have A7' := Lib.hid a7
            have Hr7 := Lib.hid hr7
            have HM7' : Hid (Mdb W5 (.slice A2 n2 c2) X7) := Lib.hid (HM8.out.trans (a7.mod.mono fun g _ hg => B6.out ▸ hg))
            clear hr7 r7 a7
            refine mix_append rfl rfl (.tmp 49) (.tmp 51) 55 rfl (by exact Hr7.out) (cls HM7'.out) ?_
            repeat (refine mix0 rfl (fun K hK => ?_); go_simp; refine hK _ ?_; clear hK K)
            have s0 := (HM7'.out.cell (p := ⟨L, 1, none⟩) HX5.out.lt HX5.out.d2).trans HX5.out.c1
            have s1 := (HM7'.out.frozen (p := ⟨L, 1, none⟩) HX5.out.lt HX5.out.d2).trans HX5.out.f1
            refine mix2 rfl (fun K hK => ?_); go_simp; refine hK _ _ ?_; clear hK K
            refine mixEnd ?_
            have HNb : Hid (Nb W5 (.slice A2 n2 c2) (.slice A7 n7 c7)) := Lib.hid (Nb.trans (w2 := Y8) (.inl B6.out : Nb W5 (.slice A2 n2 c2) (.slice A6 n6 c6)) HM8.out.size A7'.out.blk)
            have HXE := Lib.hid (HX5.out.waits' HM7'.out R7.out HNb.out)
            have HME := Lib.hid (((Mod.of_below HBt.out).trans (HM7'.out.mono (fun g _ hg => (.inr (.inr hg) : g = L ∨ blk (.slice A n c) = some g ∨ blk (.slice A2 n2 c2) = some g)))).setCell (.inl (.inl rfl)) (p := ⟨L, 1, none⟩) (.slice A7 n7 c7))
            clear s0 s1
            go_wp2
            go_ret
            refine ⟨.slice none 0 0, .slice A n c, .slice A7 n7 c7, rfl, ?_⟩
            rw [Hd.out, Hl6.out, Hl7.out]
            exact ⟨HXE.out, RC.nil _, fun g hg => (by cases hg), HME.out, .inl rfl, Nb.from HBt.out.size HNb.out⟩
    · have Hd : Hid (wantM h ws z m = (ws, [(z, M)])) := Lib.hid (by rw [wantM, if_neg (by rw [HS.out]; decide), HM.out, if_pos HC.out])
      have Hwf : Hid ((Lit.int .i64 z).wf = true ∧ (Lit.int .i64 M).wf = true) := Lib.hid ⟨wf_small hz0 hz1, mode_wf (cov_mode HC.out).1⟩
      rw [Hd.out]
      go_enter Try.func81, Try.ntmps81
      go_wp2_with fail
      refine (some_any _ m).mono ?_
      rw [HS.out]
      rintro e w1 ⟨rfl, hb1⟩
      have HB1 := Lib.hid hb1
      have t1 := (hb1.cell (p := ⟨L, 0, none⟩) hl).trans t0
      clear hb1 t0
      go_wp2_with fail
      refine (modeIn_any w1 A n c h (HI.out.below HB1.out) z).mono ?_
      rw [HM.out]
      rintro e w2 ⟨rfl, hb1⟩
      have HB2 := Lib.hid (bnext HB1.out hb1)
      clear hb1 t1
      go_wp2_with fail
      refine (Covers_any _ M m).mono ?_
      rw [HC.out]
      rintro e w3 ⟨rfl, hb1⟩
      have HB3 := Lib.hid (bnext HB2.out hb1)
      clear hb1
      go_wp2
      go_ret
      refine ⟨.slice (some ⟨w3.heap.size, 0, none⟩) 1 1, _, _, rfl, X.out.below (balloc HB3.out _), RC.one w3 (z, M) Hwf.out, fun g hg => ?_, Mod.of_below (balloc HB3.out _), .inl rfl, .inl rfl⟩
      have hs := HB3.out.size
      simp only [blk, Option.some.injEq] at hg
      subst hg
      have a1 : blk (.slice A n c) ≠ some w3.heap.size := fun e => by have := X.out.has.lt e; omega
      have a2 : blk (.slice A2 n2 c2) ≠ some w3.heap.size := fun e => by have := X.out.waits.lt e; omega
      exact ⟨hs, by omega, a1, a2⟩
end Go.Proofs.Ythpmodohfjjjcaa
