/- What a table does of a node's note: what it asks of the queue. -/
import Derived.Test.YthpmodohfjjjcaaTa10
namespace Go.Proofs.Ythpmodohfjjjcaa
open Go.RowKit

/-- What is done to a queue: what is left, what is told, where it lies. -/
def DoOk (k : FuncId) (j m : Int) (h ws h1 ws1 t1 : List Cl) : Prop := ∀ (u : World) (v : Value), IsQ u v h ws → Calls Try.prog k #[v, .int .i64 j, .int .i64 m] u fun e u' => ∃ v' T, e = .returned (.tuple #[v', T]) ∧
  IsQ u' v' h1 ws1 ∧ IsS u' T t1 ∧ Below u.heap.size u u' ∧ ((v' = v ∧ T = .slice none 0 0) ∨ NewQ u.heap.size v' T)
theorem do_drop {h ws : List Cl} (ok : OkQ h ws) (hh : h.length ≤ 50) (hw : ws.length ≤ 50) (j m : Int) : DoOk 54 j m h ws (newH .drop h ws j m) (newW .drop h ws j m) (newT .drop h ws j m) := fun u v x =>
  (Drop_nw u v h ws x ok hh hw j m).mono fun _ _ ⟨v', T, a, b, c, d, f⟩ => ⟨v', T, a, b, c, d, .inr f⟩
/-- What a table's Want makes of a queue. -/
def mwH (h ws : List Cl) (z m : Int) : List Cl := if modeM ws z = m then h else newH .want h ws z m
def mwW (h ws : List Cl) (z m : Int) : List Cl := if modeM ws z = m then ws else newW .want h ws z m
def mwT (h ws : List Cl) (z m : Int) : List Cl := if modeM ws z = m then [] else newT .want h ws z m
set_option maxRecDepth 100000 in
set_option maxHeartbeats 1000000 in
theorem do_want {h ws : List Cl} (ok : OkQ h ws) (hh : h.length ≤ 50) (hw : ws.length ≤ 50) (j m : Int) : DoOk 53 j m h ws (mwH h ws j m) (mwW h ws j m) (mwT h ws j m) := by
  intro u v x
  obtain ⟨A, n, c, A2, n2, c2, rfl, i1, i2⟩ := x.is
  obtain ⟨W, HW⟩ : ∃ W, Hid ((u.alloc (.cells #[.slice A n c, .slice A2 n2 c2] 57)).alloc (.cells #[.slice none 0 0, .slice none 0 0] 57) = W) := ⟨_, Lib.hid rfl⟩
  obtain ⟨p, Hp⟩ : ∃ W, Hid (u.heap.size = W) := ⟨_, Lib.hid rfl⟩
  have HB : Hid (Below u.heap.size u W) := Lib.hid (by rw [← HW.out]; exact balloc (balloc (Below.refl _ _) _) _)
  have Hpl : Hid (p + 1 < W.heap.size) := Lib.hid (by rw [← HW.out, ← Hp.out]; simp)
  have Y0 : Hid (W.cell? ⟨p, 0, none⟩ = some (.slice A n c)) := Lib.hid (by rw [← HW.out, ← Hp.out]; simp [go_sem])
  have Y1 : Hid (W.cell? ⟨p, 1, none⟩ = some (.slice A2 n2 c2)) := Lib.hid (by rw [← HW.out, ← Hp.out]; simp [go_sem])
  have Z0 : Hid (W.cell? ⟨p + 1, 0, none⟩ = some (.slice none 0 0)) := Lib.hid (by rw [← HW.out, ← Hp.out]; simp [go_sem])
  have Z1 : Hid (W.cell? ⟨p + 1, 1, none⟩ = some (.slice none 0 0)) := Lib.hid (by rw [← HW.out, ← Hp.out]; simp [go_sem])
  have F0 : Hid (W.frozen? ⟨p + 1, 0, none⟩ = false) := Lib.hid (by rw [← HW.out, ← Hp.out]; simp [go_sem])
  have F1 : Hid (W.frozen? ⟨p + 1, 1, none⟩ = false) := Lib.hid (by rw [← HW.out, ← Hp.out]; simp [go_sem])
  have XW := Lib.hid (x.below HB.out)
  have HWt := Lib.hid (Waiting_any W (.agg #[.slice A n c, .slice A2 n2 c2]) h ws XW.out j)
  obtain ⟨q, Hq⟩ : ∃ q, Hid (modeM ws j = q) := ⟨_, Lib.hid rfl⟩
  rw [Hq.out] at HWt
  obtain ⟨RH, HRH⟩ : ∃ q, Hid (mwH h ws j m = q) := ⟨_, Lib.hid rfl⟩
  obtain ⟨RW, HRW⟩ : ∃ q, Hid (mwW h ws j m = q) := ⟨_, Lib.hid rfl⟩
  obtain ⟨RT, HRT⟩ : ∃ q, Hid (mwT h ws j m = q) := ⟨_, Lib.hid rfl⟩
  rw [HRH.out, HRW.out, HRT.out]
  have Ok := Lib.hid ok
  clear x i1 i2 ok
  by_cases hm : q = m
  · have HR : Hid (RH = h ∧ RW = ws ∧ RT = []) := Lib.hid (by rw [← HRH.out, ← HRW.out, ← HRT.out, mwH, mwW, mwT, Hq.out, if_pos hm, if_pos hm, if_pos hm]; exact ⟨rfl, rfl, rfl⟩)
    have hb := beq_yes hm
    clear hm
    go_enter Try.func53, Try.ntmps53
    go_wp2_with fail
    rw [HW.out, Hp.out]
    refine HWt.out.mono ?_
    rintro e w1 ⟨rfl, hbl⟩
    have B1 := Lib.hid hbl
    have y0 := (hbl.cell (p := ⟨p, 0, none⟩) (by have := Hpl.out; show p < _; omega)).trans Y0.out
    have y1 := (hbl.cell (p := ⟨p, 1, none⟩) (by have := Hpl.out; show p < _; omega)).trans Y1.out
    have z0 := (hbl.cell (p := ⟨p + 1, 0, none⟩) Hpl.out).trans Z0.out
    have z1 := (hbl.cell (p := ⟨p + 1, 1, none⟩) Hpl.out).trans Z1.out
    have f0 := (hbl.frozen (p := ⟨p + 1, 0, none⟩) Hpl.out).trans F0.out
    have f1 := (hbl.frozen (p := ⟨p + 1, 1, none⟩) Hpl.out).trans F1.out
    have X1 := Lib.hid (XW.out.below hbl)
    have Hc := Lib.hid (And.intro z0 (And.intro z1 (And.intro f0 f1)))
    clear hbl
    go_wp2
    have e0 : ((w1.setCell ⟨p + 1, 0, none⟩ (.slice A n c)).setCell ⟨p + 1, 1, none⟩ (.slice A2 n2 c2)).cell? ⟨p + 1, 0, none⟩ = some (.slice A n c) := set_other (by simp) (set_same Hc.out.1)
    have e1 : ((w1.setCell ⟨p + 1, 0, none⟩ (.slice A n c)).setCell ⟨p + 1, 1, none⟩ (.slice A2 n2 c2)).cell? ⟨p + 1, 1, none⟩ = some (.slice A2 n2 c2) := set_same (set_other (by simp) Hc.out.2.1)
    have k1 : (w1.setCell ⟨p + 1, 0, none⟩ (.slice A n c)).cell? ⟨p + 1, 1, none⟩ = some (.slice none 0 0) := set_other (by simp) Hc.out.2.1
    obtain ⟨A', n', c', A2', n2', c2', ee, j1, j2⟩ := X1.out.is
    simp only [Value.agg.injEq, Array.mk.injEq, List.cons.injEq, Value.slice.injEq, and_true] at ee
    obtain ⟨⟨rfl, rfl, rfl⟩, rfl, rfl, rfl⟩ := ee
    refine bodyPost_ret (v := .tuple #[.agg #[.slice A n c, .slice A2 n2 c2], .slice none 0 0]) ?_ rfl ⟨_, _, rfl, ?_, ?_, ?_, .inl ⟨rfl, rfl⟩⟩
    · rw [results_cell_tmp rfl]
      go_simp
    · rw [HR.out.1, HR.out.2.1]
      exact ⟨A, n, c, A2, n2, c2, rfl, (j1.set_slice Hc.out.1 _).set_slice k1 _, (j2.set_slice Hc.out.1 _).set_slice k1 _⟩
    · rw [HR.out.2.2]
      exact (RC.nil _).isS
    · refine bmod (bmod (bnext HB.out B1.out) ((Mod.refl (· = p + 1) w1).set1 _) ?_) ((Mod.refl (· = p + 1) _).set1 _) ?_
      · have := Hp.out; omega
      · have := Hp.out; omega
  · have HR : Hid (RH = newH .want h ws j m ∧ RW = newW .want h ws j m ∧ RT = newT .want h ws j m) := Lib.hid (by rw [← HRH.out, ← HRW.out, ← HRT.out, mwH, mwW, mwT, Hq.out, if_neg hm, if_neg hm, if_neg hm]; exact ⟨rfl, rfl, rfl⟩)
    have hb := beq_no hm
    clear hm
    go_enter Try.func53, Try.ntmps53
    go_wp2_with fail
    rw [HW.out, Hp.out]
    refine HWt.out.mono ?_
    rintro e w1 ⟨rfl, hbl⟩
    have B1 := Lib.hid hbl
    have y0 := (hbl.cell (p := ⟨p, 0, none⟩) (by have := Hpl.out; show p < _; omega)).trans Y0.out
    have y1 := (hbl.cell (p := ⟨p, 1, none⟩) (by have := Hpl.out; show p < _; omega)).trans Y1.out
    have X1 := Lib.hid (XW.out.below hbl)
    clear hbl
    go_wp2_with fail
    refine (Want_nw w1 (.agg #[.slice A n c, .slice A2 n2 c2]) h ws X1.out Ok.out hh hw j m).mono ?_
    rw [← HR.out.1, ← HR.out.2.1, ← HR.out.2.2]
    rintro e w2 ⟨v', T, rfl, hq, hs, hb2, hnw⟩
    obtain ⟨Ax, nx, cx, Ay, ny, cy, rfl, j1, j2⟩ := hq.is
    obtain ⟨At, nt, ct, rfl, j3⟩ := hs.is
    have J1 := Lib.hid j1
    have J2 := Lib.hid j2
    have J3 := Lib.hid j3
    have NW := Lib.hid (hnw.mono (bnext HB.out B1.out).size)
    have B2 := Lib.hid (bnext B1.out hb2)
    clear hq hs j1 j2 j3 hb2 hnw y0 y1
    have z0 := (B2.out.cell (p := ⟨p + 1, 0, none⟩) Hpl.out).trans Z0.out
    have z1 := (B2.out.cell (p := ⟨p + 1, 1, none⟩) Hpl.out).trans Z1.out
    have f0 := (B2.out.frozen (p := ⟨p + 1, 0, none⟩) Hpl.out).trans F0.out
    have f1 := (B2.out.frozen (p := ⟨p + 1, 1, none⟩) Hpl.out).trans F1.out
    have Hc := Lib.hid (And.intro z0 (And.intro z1 (And.intro f0 f1)))
    go_wp2
    have e0 : ((w2.setCell ⟨p + 1, 0, none⟩ (.slice Ax nx cx)).setCell ⟨p + 1, 1, none⟩ (.slice Ay ny cy)).cell? ⟨p + 1, 0, none⟩ = some (.slice Ax nx cx) := set_other (by simp) (set_same Hc.out.1)
    have e1 : ((w2.setCell ⟨p + 1, 0, none⟩ (.slice Ax nx cx)).setCell ⟨p + 1, 1, none⟩ (.slice Ay ny cy)).cell? ⟨p + 1, 1, none⟩ = some (.slice Ay ny cy) := set_same (set_other (by simp) Hc.out.2.1)
    have k1 : (w2.setCell ⟨p + 1, 0, none⟩ (.slice Ax nx cx)).cell? ⟨p + 1, 1, none⟩ = some (.slice none 0 0) := set_other (by simp) Hc.out.2.1
    refine bodyPost_ret (v := .tuple #[.agg #[.slice Ax nx cx, .slice Ay ny cy], .slice At nt ct]) ?_ rfl ⟨_, _, rfl, ⟨Ax, nx, cx, Ay, ny, cy, rfl, (J1.out.set_slice Hc.out.1 _).set_slice k1 _, (J2.out.set_slice Hc.out.1 _).set_slice k1 _⟩, ⟨At, nt, ct, rfl, (J3.out.set_slice Hc.out.1 _).set_slice k1 _⟩, ?_, .inr NW.out⟩
    · rw [results_cell_tmp rfl]
      go_simp
    · refine bmod (bmod (bnext HB.out B2.out) ((Mod.refl (· = p + 1) w2).set1 _) ?_) ((Mod.refl (· = p + 1) _).set1 _) ?_
      · have := Hp.out; omega
      · have := Hp.out; omega
/-- What a node has, if that covers m. -/
def enM (h : List Cl) (z m : Int) : List Cl := if covB (modeM h z) m then [(z, modeM h z)] else []
set_option maxRecDepth 100000 in
theorem enough_any (w : World) (v : Value) (h ws : List Cl) (x : IsQ w v h ws) (z m : Int) (hz : (Lit.int .i64 z).wf = true) (hm : (Lit.int .i64 (modeM h z)).wf = true) :
    Calls Try.prog 51 #[v, .int .i64 z, .int .i64 m] w fun e w' => ∃ T, e = .returned T ∧ IsS w' T (enM h z m) ∧ Below w.heap.size w w' ∧ ∀ g, blk T = some g → w.heap.size ≤ g := by
  obtain ⟨A, n, c, A2, n2, c2, rfl, i1, i2⟩ := x.is
  have HB : Hid (Below w.heap.size w (w.alloc (.cells #[.slice A n c, .slice A2 n2 c2] 57))) := Lib.hid (balloc (Below.refl _ _) _)
  have X := Lib.hid (x.below HB.out)
  have Hwf := Lib.hid (And.intro hz hm)
  obtain ⟨M, HM⟩ : ∃ q, Hid (modeM h z = q) := ⟨_, Lib.hid rfl⟩
  obtain ⟨q, Hq⟩ : ∃ q, Hid (covB M m = q) := ⟨_, Lib.hid rfl⟩
  have HE : Hid (enM h z m = if q then [(z, M)] else []) := Lib.hid (by rw [enM, HM.out, Hq.out])
  rw [HE.out]
  rw [HM.out] at Hwf
  clear x i1 i2 hz hm
  go_enter Try.func51, Try.ntmps51
  go_wp2_with fail
  refine (Mode_any _ _ h ws X.out z).mono ?_
  rw [HM.out]
  rintro e w1 ⟨rfl, hb⟩
  have B1 := Lib.hid (bnext HB.out hb)
  clear hb
  go_wp2_with fail
  refine (Covers_any _ _ _).mono ?_
  rw [Hq.out]
  rintro e w2 ⟨rfl, hb⟩
  have B2 := Lib.hid (bnext B1.out hb)
  clear hb
  cases q
  · go_wp2
    go_ret
    exact ⟨_, rfl, (RC.nil _).isS, B2.out, fun g hg => by cases hg⟩
  · go_wp2
    go_ret
    refine ⟨_, rfl, ⟨_, _, _, rfl, (Sgl.new w2 (z, M) Hwf.out).is⟩, balloc B2.out _, fun g hg => ?_⟩
    have hg' : w2.heap.size = g := Option.some.inj hg
    have := B2.out.size
    omega
set_option maxRecDepth 100000 in
/-- The teller, made. -/
theorem teller_any (w : World) (tb al : Nat) :
    Calls Try.prog 47 #[.pointer (some ⟨tb, 0, none⟩), .pointer (some ⟨al, 0, none⟩)] w fun e w' => ∃ bt ba, e = .returned (.func (.func 70) #[] #[.pointer (some ⟨bt, 0, none⟩), .pointer (some ⟨ba, 0, none⟩)]) ∧
      w'.cell? ⟨bt, 0, none⟩ = some (.pointer (some ⟨tb, 0, none⟩)) ∧ w'.cell? ⟨ba, 0, none⟩ = some (.pointer (some ⟨al, 0, none⟩)) ∧ Below w.heap.size w w' ∧ w.heap.size ≤ bt ∧ w.heap.size ≤ ba := by
  go_enter Try.func47, Try.ntmps47
  go_wp2
  go_ret
  exact ⟨_, _, rfl, by simp [go_sem], by simp [go_sem], balloc (balloc (Below.refl _ _) _) _, Nat.le_refl _, Nat.le_succ _⟩
end Go.Proofs.Ythpmodohfjjjcaa
