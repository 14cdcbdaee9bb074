/- The program's Read. -/
import Derived.Test.YtnbhjehaecifcaaPh06
import Derived.Deep.DeepCutAuto
import Derived.Laws.EntriesVeiled
namespace Go.Proofs.Ytnbhjehaecifcaa
open Go.RowKit

theorem made_box {w w' : World} {b R C D g : Nat} {l : List UInt8} {y x : Vx} (z : BoxV w' g y) (hp : PE w' b R C D l) (m : Mod (· = b) w w') (hg : w.heap.size ≤ g) (lt : b < w.heap.size ∧ R < w.heap.size ∧ C < w.heap.size ∧ D < w.heap.size) :
    BoxV (setV w' g x) g x ∧ PE (setV w' g x) b R C D l ∧ Mod (· = b) w (setV w' g x) ∧ w.heap.size ≤ g := by
  have hm := setV_mod w' g x
  refine ⟨setV_box z x, hp.other hm (by omega) (by omega) (by omega) (by omega), ⟨hm.os.trans m.os, hm.tape.trans m.tape, hm.output.trans m.output, Nat.le_trans m.size hm.size, fun k hk hb => (hm.block k (Nat.lt_of_lt_of_le hk m.size) (by omega)).trans (m.block k hk hb)⟩, hg⟩
theorem made_new {w w' : World} {b R C D : Nat} {l : List UInt8} {x : Vx} (hp : PE w' b R C D l) (m : Mod (· = b) w w') :
    BoxV (w'.alloc (.cells (vC x) 25)) w'.heap.size x ∧ PE (w'.alloc (.cells (vC x) 25)) b R C D l ∧ Mod (· = b) w (w'.alloc (.cells (vC x) 25)) ∧ w.heap.size ≤ w'.heap.size :=
  ⟨BoxV.new w' x, hp.below ((Below.refl _ _).alloc (Nat.le_refl _) _), m.alloc _, m.size⟩
set_option maxHeartbeats 8000000 in
theorem Read_any (s : List UInt8) (_hs : s.length ≤ 100000) (w : World) :
    Calls Try.prog 14 #[.string (str s)] w fun e w' => ∃ x E, e = .returned (.tuple #[vV x, .int .i64 E]) ∧ Below w.heap.size w w' ∧ RdSay w' s x E := by
  go_enter Try.func14, Try.ntmps14
  go_upto_region 1 with (fail)
  obtain ⟨w1, Hw1⟩ : ∃ w1, Hid (w.alloc (.cells (vC noVx) 25) = w1) := ⟨_, Lib.hid rfl⟩
  obtain ⟨p, Hp⟩ : ∃ p, Hid (w.heap.size = p) := ⟨_, Lib.hid rfl⟩
  have HA1 : Hid (BoxV w1 p noVx) := Lib.hid (by rw [← Hw1.out, ← Hp.out]; exact BoxV.new w noVx)
  have HB1 : Hid (Below w.heap.size w w1) := Lib.hid (by rw [← Hw1.out]; exact (Below.refl _ _).alloc (Nat.le_refl _) _)
  rw [show w.alloc (.cells #[.int .i64 0, .int .i64 0, .slice none 0 0, .slice none 0 0, .slice none 0 0] 25) = w1 from Hw1.out, Hp.out]
  go_wp2_with fail
  refine (PRead_any s w1).mono ?_
  obtain ⟨b, Hb⟩ : ∃ b, Hid (w1.heap.size = b) := ⟨_, Lib.hid rfl⟩
  rw [Hb.out]
  rintro e w2 ⟨rfl, hb2, hr2, hs2⟩
  have HB2 : Hid (Below w.heap.size w w2) := Lib.hid (bnext HB1.out (by rw [← Hb.out] at hb2; exact hb2))
  have HA2 : Hid (BoxV w2 p noVx) := Lib.hid (HA1.out.below (by rw [← Hb.out] at hb2; exact hb2))
  have HR2 := Lib.hid hr2
  have Hs2 := Lib.hid hs2
  clear hb2 hr2 hs2
  go_upto_region 5 with (fail)
  obtain ⟨w3, Hw3⟩ : ∃ w3, Hid (((w2.alloc (.cells #[.pointer (some ⟨b, 0, none⟩)] 51)).alloc (.cells #[.func (.func 28) #[] #[.pointer (some ⟨w2.heap.size, 0, none⟩)]] 54)).alloc (.cells #[.func (.func 30) #[] #[.pointer (some ⟨w2.heap.size, 0, none⟩), .pointer (some ⟨w2.heap.size + 1, 0, none⟩)]] 55) = w3) := ⟨_, Lib.hid rfl⟩
  obtain ⟨R, HR⟩ : ∃ R, Hid (w2.heap.size = R) := ⟨_, Lib.hid rfl⟩
  obtain ⟨C, HC⟩ : ∃ C, Hid (R + 1 = C) := ⟨_, Lib.hid rfl⟩
  obtain ⟨D, HD⟩ : ∃ D, Hid (C + 1 = D) := ⟨_, Lib.hid rfl⟩
  have hb3 : Below w2.heap.size w2 w3 := by rw [← Hw3.out]; exact balloc (balloc ((Below.refl _ _).alloc (Nat.le_refl _) _) _) _
  have HP3 : Hid (PE w3 b R C D s) := Lib.hid (by
    have h1 := HR2.out.lt
    have h2 := HR.out
    refine ⟨⟨false, HR2.out.below hb3⟩, ?_, ?_, ?_, by omega, by have := HC.out; omega, by have := HC.out; have := HD.out; omega⟩
    · rw [← Hw3.out, ← HR.out]; simp [go_sem]
    · rw [← Hw3.out, ← HC.out, ← HR.out]; simp [go_sem]
    · rw [← Hw3.out, ← HD.out, ← HC.out, ← HR.out]; simp [go_sem])
  have HB3 : Hid (Below w.heap.size w w3) := Lib.hid (bnext HB2.out hb3)
  have HA3 : Hid (BoxV w3 p noVx) := Lib.hid (HA2.out.below hb3)
  rw [Hw3.out, HR.out, HC.out, HD.out]
  clear hb3
  obtain ⟨x, Hx⟩ : ∃ x, Hid (i2 s = x) := ⟨_, Lib.hid rfl⟩
  obtain ⟨y, Hy⟩ : ∃ x, Hid (i8 (r2 s) = x) := ⟨_, Lib.hid rfl⟩
  go_cut [8] (fun v wx => ∃ g, v = .pointer (some ⟨g, 0, none⟩) ∧ Hid (BoxV wx g ⟨x, y, none, 0, 0, none, 0, 0, none, 0, 0⟩ ∧ PE wx b R C D (pL2 s) ∧ Mod (· = b) w3 wx ∧ w3.heap.size ≤ g))
  case first =>
    have hlt := HP3.out.lt
    have c3r := HP3.out.pr
    have c3c := HP3.out.pc
    have HPd : Hid (PE w3.drew b R C D s) := Lib.hid (HP3.out.keep (Mod.refl (fun _ => False) w3).drew (fun _ _ => id))
    have HPa : ∀ o, Hid (PE (w3.drew.alloc o) b R C D s) := fun o => Lib.hid (HP3.out.keep (((Mod.refl (fun _ => False) w3).drew).alloc o) (fun _ _ => id))
    have HLt := Lib.hid hlt
    have l3r := hlt.2.1
    have l3c := hlt.2.2.1
    clear hlt
    go_region_with (first
      | (go_at_call 31; refine (two_read _ b R C D s (by first | exact HPd.out | exact (HPa _).out)).mono ?_; rw [Hx.out]; rintro e w5 ⟨rfl, hp5, hm5⟩; have c5r := hp5.pr; have c5c := hp5.pc; have l5r := hp5.lt.2.1; have l5c := hp5.lt.2.2.1; try (have z5 : BoxV w5 w3.heap.size noVx := box_read (W := w3.drew) hm5 HLt.out.1))
      | (go_at_call 28; refine (rcount_any _ b R C D (r2 s) (by first | exact hp5 | exact hp5.below ((Below.refl _ _).alloc (Nat.le_refl _) _))).mono ?_; rw [Hy.out]; rintro e w6 ⟨rfl, hp6, hm6⟩; first | (have z6 : BoxV w6 w3.heap.size noVx := z5.kept hm6 (by have := HLt.out.1; omega); obtain ⟨y0, y1, y2, y3, y4⟩ := z6.cells; have f0 := z6.free 0; have f1 := z6.free 1; have f2 := z6.free 2; have f3 := z6.free 3; have f4 := z6.free 4) | (have z6 : BoxV w6 w5.heap.size noVx := box_read (W := w5) hm6 hp5.lt.1; obtain ⟨y0, y1, y2, y3, y4⟩ := z6.cells; have f0 := z6.free 0; have f1 := z6.free 1; have f2 := z6.free 2; have f3 := z6.free 3; have f4 := z6.free 4) | skip))
    all_goals
      go_wp2_with fail
      go_meet
      first
        | (refine ⟨w6.heap.size, rfl, Lib.hid ?_⟩; exact made_new (x := ⟨x, y, none, 0, 0, none, 0, 0, none, 0, 0⟩) hp6 (((Mod.refl (· = b) w3).drew.trans hm5).trans hm6))
        | (refine ⟨w5.heap.size, rfl, Lib.hid ?_⟩; exact made_box (x := ⟨x, y, none, 0, 0, none, 0, 0, none, 0, 0⟩) z6 hp6 (((Mod.refl (· = b) w3).drew.trans hm5).trans (((Mod.refl (· = b) w5).alloc _).trans hm6)) hm5.size HLt.out)
        | (refine ⟨w3.heap.size, rfl, Lib.hid ?_⟩; exact made_box (x := ⟨x, y, none, 0, 0, none, 0, 0, none, 0, 0⟩) z6 hp6 ((((Mod.refl (· = b) w3).alloc _).drew.trans hm5).trans hm6) (Nat.le_refl _) HLt.out)
  case rest =>
    obtain ⟨g, rfl, HG⟩ := hcut
    obtain ⟨n0, Hn0⟩ : ∃ n, Hid (textN s = n) := ⟨_, Lib.hid rfl⟩
    obtain rfl : x = (n0 : Int) := by rw [← Hx.out, i2, Hn0.out]
    obtain ⟨B, HBB⟩ : ∃ n, Hid (wc.heap.size = n) := ⟨_, Lib.hid rfl⟩
    have HQ : Hid (Rq w wc b R C D g p B (pL2 s) ⟨(n0 : Int), y, none, 0, 0, none, 0, 0, none, 0, 0⟩) := Lib.hid (by
      have h1 := HP3.out.lt
      have h2 := HG.out.2.2.2
      have h3 := HA1.out.lt
      have h4 := Hb.out
      have h5 := Hp.out
      have h6 := HG.out.1.lt
      have h7 := HBB.out
      exact ⟨HG.out.2.1, HG.out.1, HA3.out.kept HG.out.2.2.1 (by omega), bmod HB3.out HG.out.2.2.1 (by omega), by omega, by omega, by omega, ⟨by omega, by omega, by omega⟩, by omega, by omega⟩)
    clear HG HA3 HB3 HP3 HA1 HA2 HB2 HR2 Hs2
    obtain ⟨v0, v1, v2, v3, v4⟩ := HQ.out.box.cells
    have c0 := HQ.out.pe.pc
    go_wp2_with fail
    refine (rowI_all wc b R C D (pL2 s) HQ.out.pe n0).mono ?_
    rintro e u1 ⟨iA, q0, rfl, hr, hf, hp, hm⟩
    have HQ1 : Hid (Rq w u1 b R C D g p B (pL3 s) ⟨(n0 : Int), y, none, 0, 0, none, 0, 0, none, 0, 0⟩) := Lib.hid (HQ.out.read hm (by rw [pL3, Hn0.out]; exact hp))
    have HI1 : Hid (RowI u1 iA q0 q0 (pIncs s)) := Lib.hid (by rw [pIncs, Hn0.out]; exact hr)
    have HF1 : Hid (∀ i, blk (.slice iA q0 q0) = some i → B ≤ i) := Lib.hid (fun i hi => by have := hf i hi; have := HBB.out; omega)
    clear hr hf hp hm v0 v1 v2 v3 v4 c0
    obtain ⟨v0, v1, v2, v3, v4⟩ := HQ1.out.box.cells
    have f4 := HQ1.out.box.free 4
    go_upto_region 7 with (fail)
    obtain ⟨u2, Hu2⟩ : ∃ u, Hid (u1.setCell ⟨g, 4, none⟩ (.slice iA q0 q0) = u) := ⟨_, Lib.hid rfl⟩
    have HQ2 : Hid (Rq w u2 b R C D g p B (pL3 s) ⟨(n0 : Int), y, none, 0, 0, none, 0, 0, iA, q0, q0⟩) := Lib.hid (by rw [← Hu2.out]; exact HQ1.out.put 4 _ rfl)
    have HI2 : Hid (RowI u2 iA q0 q0 (pIncs s)) := Lib.hid (by rw [← Hu2.out]; exact HQ1.out.rowI HI1.out HF1.out ((Mod.refl (· = g) u1).set1 _) (fun i e => .inr e))
    rw [Hu2.out]
    clear v0 v1 v2 v3 v4 f4 HQ1 HI1
    obtain ⟨n1, Hn1⟩ : ∃ n, Hid (textN (pL3 s) = n) := ⟨_, Lib.hid rfl⟩
    have Hi1 : Hid (i2 (pL3 s) = (n1 : Int)) := Lib.hid (by rw [i2, Hn1.out])
    have c0 := HQ2.out.pe.pr
    go_wp2_with fail
    refine (two_read u2 b R C D (pL3 s) HQ2.out.pe).mono ?_
    rw [Hi1.out]
    rintro e u3 ⟨rfl, hp, hm⟩
    have HQ3 : Hid (Rq w u3 b R C D g p B (r2 (pL3 s)) ⟨(n0 : Int), y, none, 0, 0, none, 0, 0, iA, q0, q0⟩) := Lib.hid (HQ2.out.read hm hp)
    have HI3 : Hid (RowI u3 iA q0 q0 (pIncs s)) := Lib.hid (HQ2.out.rowI HI2.out HF1.out hm (fun i e => .inl e))
    clear hp hm c0
    go_wp2_with fail
    refine (rowM_all u3 b R C D (r2 (pL3 s)) HQ3.out.pe _ _ _ mV mR (rmember_clos b R C D) n1 8 (by omega)).mono ?_
    rintro e u4 ⟨mA, q1, rfl, hr, hf, hp, hm⟩
    have HQ4 : Hid (Rq w u4 b R C D g p B (pL5 s) ⟨(n0 : Int), y, none, 0, 0, none, 0, 0, iA, q0, q0⟩) := Lib.hid (HQ3.out.read hm (by rw [pL5, Hn1.out]; exact hp))
    have HM4 : Hid (RowM u4 mA q1 q1 (pMem s)) := Lib.hid (by rw [pMem, Hn1.out]; exact hr)
    have HG4 : Hid (∀ i, blk (.slice mA q1 q1) = some i → B ≤ i) := Lib.hid (fun i hi => by have := hf i hi; have := HQ3.out.le; omega)
    have HI4 : Hid (RowI u4 iA q0 q0 (pIncs s)) := Lib.hid (HQ3.out.rowI HI3.out HF1.out hm (fun i e => .inl e))
    clear hr hf hp hm
    obtain ⟨v0, v1, v2, v3, v4⟩ := HQ4.out.box.cells
    have f2 := HQ4.out.box.free 2
    go_upto_region 8 with (fail)
    obtain ⟨u5, Hu5⟩ : ∃ u, Hid (u4.setCell ⟨g, 2, none⟩ (.slice mA q1 q1) = u) := ⟨_, Lib.hid rfl⟩
    have HQ5 : Hid (Rq w u5 b R C D g p B (pL5 s) ⟨(n0 : Int), y, mA, q1, q1, none, 0, 0, iA, q0, q0⟩) := Lib.hid (by rw [← Hu5.out]; exact HQ4.out.put 2 _ rfl)
    have HI5 : Hid (RowI u5 iA q0 q0 (pIncs s)) := Lib.hid (by rw [← Hu5.out]; exact HQ4.out.rowI HI4.out HF1.out ((Mod.refl (· = g) u4).set1 _) (fun i e => .inr e))
    have HM5 : Hid (RowM u5 mA q1 q1 (pMem s)) := Lib.hid (by rw [← Hu5.out]; exact HQ4.out.rowM HM4.out HG4.out ((Mod.refl (· = g) u4).set1 _) (fun i e => .inr e))
    rw [Hu5.out]
    clear v0 v1 v2 v3 v4 f2 HQ4 HI4 HM4
    obtain ⟨n2, Hn2⟩ : ∃ n, Hid (textN (pL5 s) = n) := ⟨_, Lib.hid rfl⟩
    have Hi2 : Hid (i2 (pL5 s) = (n2 : Int)) := Lib.hid (by rw [i2, Hn2.out])
    have hlt := Lib.hid HQ5.out.pe.lt
    have k0 : ∀ y : In (Exc b u5), y.u.cell? ⟨R, 0, none⟩ = some (.pointer (some ⟨b, 0, none⟩)) := fun y => (y.is.cell (p := ⟨R, 0, none⟩) hlt.out.2.1 HQ5.out.pe.nr).trans HQ5.out.pe.pr
    have k1 : ∀ y : In (Exc b u5), y.u.cell? ⟨D, 0, none⟩ = some (.func (.func 30) #[] #[.pointer (some ⟨R, 0, none⟩), .pointer (some ⟨C, 0, none⟩)]) := fun y => (y.is.cell (p := ⟨D, 0, none⟩) hlt.out.2.2.2 HQ5.out.pe.nd).trans HQ5.out.pe.pd
    refine wp_region_mix (by kernel_rfl) (Cls (Exc b u5)) [(0, 0), (2, 0), (1, 1), (3, 1), (4, 0), (5, 2)] (by kernel_rfl) (cls (Mod.refl _ _).drew) ?_
    repeat (refine mix0 rfl (fun K hK => ?_); go_simp; refine hK _ ?_; clear hK K)
    refine mix1 rfl (fun K hK => ?_)
    go_simp
    refine (two_read _ b R C D (pL5 s) (HQ5.out.pe.keep (Mod.refl (fun _ => False) u5).drew (fun _ _ => id))).mono ?_
    rw [Hi2.out]
    rintro e u6 ⟨rfl, hp, hm⟩
    have HM6' : Hid (Mod (· = b) u5 u6) := Lib.hid ((Mod.refl (· = b) u5).drew.trans hm)
    have HQ6 : Hid (Rq w u6 b R C D g p B (r2 (pL5 s)) ⟨(n0 : Int), y, mA, q1, q1, none, 0, 0, iA, q0, q0⟩) := Lib.hid (HQ5.out.read HM6'.out hp)
    clear hp hm
    refine ⟨_, rfl, hK _ _ (cls HM6'.out) ?_⟩
    clear hK K
    repeat (refine mix0 rfl (fun K hK => ?_); go_simp; refine hK _ ?_; clear hK K)
    refine mix1 rfl (fun K hK => ?_)
    go_simp
    refine (rowM_all u6 b R C D (r2 (pL5 s)) HQ6.out.pe _ _ _ dV dR (rdead_clos b R C D) n2 20 (by omega)).mono ?_
    rintro e u7 ⟨dA, q2, rfl, hr, hf, hp, hm⟩
    have HM7' : Hid (Mod (· = b) u5 u7) := Lib.hid (HM6'.out.trans hm)
    have HQ7 : Hid (∃ l, Rq w u7 b R C D g p B l ⟨(n0 : Int), y, mA, q1, q1, none, 0, 0, iA, q0, q0⟩) := Lib.hid ⟨_, HQ6.out.read hm hp⟩
    have HD7 : Hid (RowM u7 dA q2 q2 (pDead s)) := Lib.hid (by rw [pDead, Hn2.out]; exact hr)
    have HG7 : Hid (∀ i, blk (.slice dA q2 q2) = some i → B ≤ i) := Lib.hid (fun i hi => by have := hf i hi; have := HQ6.out.le; omega)
    have HI7 : Hid (RowI u7 iA q0 q0 (pIncs s)) := Lib.hid (HQ5.out.rowI HI5.out HF1.out HM7'.out (fun i e => .inl e))
    have HM7 : Hid (RowM u7 mA q1 q1 (pMem s)) := Lib.hid (HQ5.out.rowM HM5.out HG4.out HM7'.out (fun i e => .inl e))
    clear hr hf hp hm
    refine ⟨_, rfl, hK _ _ (cls HM7'.out) ?_⟩
    clear hK K
    repeat (refine mix0 rfl (fun K hK => ?_); go_simp; refine hK _ ?_; clear hK K)
    obtain ⟨l7, hq7⟩ := HQ7.out
    have HQ8 := Lib.hid hq7
    obtain ⟨v0, v1, v2, v3, v4⟩ := hq7.box.cells
    have f3 := hq7.box.free 3
    clear hq7 HQ7
    refine mix2 rfl (fun K hK => ?_)
    go_simp
    refine hK _ _ ?_
    clear hK K
    refine mixEnd ?_
    clear k0 k1
    obtain ⟨u9, Hu9⟩ : ∃ u, Hid (u7.setCell ⟨g, 3, none⟩ (.slice dA q2 q2) = u) := ⟨_, Lib.hid rfl⟩
    have HQ9 : Hid (Rq w u9 b R C D g p B l7 ⟨(n0 : Int), y, mA, q1, q1, dA, q2, q2, iA, q0, q0⟩) := Lib.hid (by rw [← Hu9.out]; exact HQ8.out.put 3 _ rfl)
    have HV9 : Hid (IsV u9 ⟨(n0 : Int), y, mA, q1, q1, dA, q2, q2, iA, q0, q0⟩ (parseV s)) := Lib.hid (by
      rw [← Hu9.out]
      have m : Mod (· = g) u7 (u7.setCell ⟨g, 3, none⟩ (.slice dA q2 q2)) := (Mod.refl (· = g) u7).set1 _
      exact ⟨Hx.out.symm, Hy.out.symm, (HQ8.out.rowM HM7.out HG4.out m (fun i e => .inr e)).isL, (HQ8.out.rowM HD7.out HG7.out m (fun i e => .inr e)).isL, (HQ8.out.rowI HI7.out HF1.out m (fun i e => .inr e)).isI⟩)
    rw [Hu9.out]
    clear v0 v1 v2 v3 v4 f3 HQ8 HI7 HM7 HD7 HQ5 HI5 HM5
    obtain ⟨v0, v1, v2, v3, v4⟩ := HQ9.out.box.cells
    obtain ⟨V, HV⟩ : ∃ V, Hid (parseV s = V) := ⟨_, Lib.hid rfl⟩
    rw [HV.out] at HV9
    obtain ⟨S, HS⟩ : ∃ S, Hid (bytesV V = S) := ⟨_, Lib.hid rfl⟩
    obtain ⟨E, HE⟩ : ∃ E, Hid (chkE V = E) := ⟨_, Lib.hid rfl⟩
    obtain ⟨rb, Hrb⟩ : ∃ r, Hid (readB s = r) := ⟨_, Lib.hid rfl⟩
    have Hrb2 := Hrb
    rw [readB, HV.out] at Hrb2
    go_wp2_with fail
    refine (Bytes_any u9 _ V HV9.out).mono ?_
    rw [HS.out, HE.out]
    rintro e u10 ⟨rfl, hb⟩
    have HQ10 := Lib.hid (HQ9.out.to hb)
    have HV10 := Lib.hid (HV9.out.below hb)
    clear hb v0 v1 v2 v3 v4
    obtain ⟨v0, v1, v2, v3, v4⟩ := HQ10.out.box.cells
    obtain ⟨z0, z1, z2, z3, z4⟩ := HQ10.out.res.cells
    have f0 := HQ10.out.res.free 0
    have f1 := HQ10.out.res.free 1
    have f2 := HQ10.out.res.free 2
    have f3 := HQ10.out.res.free 3
    have f4 := HQ10.out.res.free 4
    have HBn : Hid (Below w.heap.size w (setV u10 p noVx)) := Lib.hid (bmod HQ10.out.below (setV_mod u10 p noVx) HQ10.out.old)
    have HBy : Hid (Below w.heap.size w (setV u10 p ⟨(n0 : Int), y, mA, q1, q1, dA, q2, q2, iA, q0, q0⟩)) := Lib.hid (bmod HQ10.out.below (setV_mod u10 p _) HQ10.out.old)
    have HVy : Hid (IsV (setV u10 p ⟨(n0 : Int), y, mA, q1, q1, dA, q2, q2, iA, q0, q0⟩) ⟨(n0 : Int), y, mA, q1, q1, dA, q2, q2, iA, q0, q0⟩ V) := Lib.hid (by
      have h1 := HQ10.out.pb
      have h2 := HQ10.out.bg
      have h3 := HQ10.out.gB
      have m := setV_mod u10 p ⟨(n0 : Int), y, mA, q1, q1, dA, q2, q2, iA, q0, q0⟩
      exact ⟨HV10.out.nodes, HV10.out.epoch, HV10.out.mem.hold m (fun i hi e => by have := HG4.out i hi; omega), HV10.out.dead.hold m (fun i hi e => by have := HG7.out i hi; omega), HV10.out.incs.hold m (fun i hi e => by have := HF1.out i hi; omega)⟩)
    obtain ⟨un, Hun⟩ : ∃ u, Hid (((((u10.setCell ⟨p, 0, none⟩ (.int .i64 0)).setCell ⟨p, 1, none⟩ (.int .i64 0)).setCell ⟨p, 2, none⟩ (.slice none 0 0)).setCell ⟨p, 3, none⟩ (.slice none 0 0)).setCell ⟨p, 4, none⟩ (.slice none 0 0) = u) := ⟨_, Lib.hid rfl⟩
    have HCun : Hid (BoxV un p noVx) := Lib.hid (by rw [← Hun.out]; exact setV_box HQ10.out.res noVx)
    obtain ⟨uy, Huy⟩ : ∃ u, Hid (((((u10.setCell ⟨p, 0, none⟩ (.int .i64 (n0 : Int))).setCell ⟨p, 1, none⟩ (.int .i64 y)).setCell ⟨p, 2, none⟩ (.slice mA q1 q1)).setCell ⟨p, 3, none⟩ (.slice dA q2 q2)).setCell ⟨p, 4, none⟩ (.slice iA q0 q0) = u) := ⟨_, Lib.hid rfl⟩
    have HCuy : Hid (BoxV uy p ⟨(n0 : Int), y, mA, q1, q1, dA, q2, q2, iA, q0, q0⟩) := Lib.hid (by rw [← Huy.out]; exact setV_box HQ10.out.res ⟨(n0 : Int), y, mA, q1, q1, dA, q2, q2, iA, q0, q0⟩)
    cases hck : chkB V with
    | false =>
      have Hr : Hid (rb = false) := Lib.hid (by rw [← Hrb2.out, hck]; rfl)
      have He : Hid (E = 1) := Lib.hid (by rw [← HE.out, chkE, hck]; rfl)
      rw [He.out]
      clear hck
      go_wp2
      rw [Hun.out]
      obtain ⟨s0, s1, s2, s3, s4⟩ := HCun.out.cells
      simp only [noVx] at s0 s1 s2 s3 s4
      exact bodyPost_ret (v := .tuple #[vV noVx, .int .i64 10]) (by simp [results, Try.results14, go_sem, s0, s1, s2, s3, s4, noVx]) rfl ⟨noVx, 10, rfl, by rw [← Hun.out]; exact HBn.out, And.intro (fun h => by rw [Hrb.out, Hr.out] at h; cases h) (fun _ => ⟨rfl, rfl⟩)⟩
    | true =>
      have He : Hid (E = 0) := Lib.hid (by rw [← HE.out, chkE, hck]; rfl)
      have HS2 : Hid (S = bytesL V) := Lib.hid (by rw [← HS.out, bytesV, hck]; rfl)
      rw [He.out]
      by_cases hs2 : S = s
      · have Hr : Hid (rb = true) := Lib.hid (by rw [← Hrb2.out, hck, ← HS2.out, hs2]; simp)
        have hq : (S == s) = true := by simpa using hs2
        clear hck hs2
        go_wp2
        rw [Huy.out]
        obtain ⟨s0, s1, s2, s3, s4⟩ := HCuy.out.cells
        exact bodyPost_ret (v := .tuple #[vV ⟨(n0 : Int), y, mA, q1, q1, dA, q2, q2, iA, q0, q0⟩, .int .i64 0]) (by simp [results, Try.results14, go_sem, s0, s1, s2, s3, s4]) rfl ⟨_, 0, rfl, by rw [← Huy.out]; exact HBy.out, And.intro (fun _ => ⟨rfl, by rw [HV.out, ← Huy.out]; exact HVy.out⟩) (fun h => by rw [Hrb.out, Hr.out] at h; cases h)⟩
      · have Hr : Hid (rb = false) := Lib.hid (by rw [← Hrb2.out, hck, ← HS2.out]; simpa using hs2)
        have hq : (S == s) = false := by simpa using hs2
        clear hck hs2
        go_wp2
        rw [Hun.out]
        obtain ⟨s0, s1, s2, s3, s4⟩ := HCun.out.cells
        simp only [noVx] at s0 s1 s2 s3 s4
        exact bodyPost_ret (v := .tuple #[vV noVx, .int .i64 10]) (by simp [results, Try.results14, go_sem, s0, s1, s2, s3, s4, noVx]) rfl ⟨noVx, 10, rfl, by rw [← Hun.out]; exact HBn.out, And.intro (fun h => by rw [Hrb.out, Hr.out] at h; cases h) (fun _ => ⟨rfl, rfl⟩)⟩
end Go.Proofs.Ytnbhjehaecifcaa
