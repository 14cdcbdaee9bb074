
/- Want, Drop, Leave, Mode, Waiting: what they tell of a queue that may be. -/
import Derived.Test.YthpmodohfjjjcaaCh9
namespace Go.Proofs.Ythpmodohfjjjcaa
open Go.RowKit

inductive Op9
  | want
  | drop
  | leave
def doH : Op9 → List Cl → Int → Int → List Cl
  | .want, h, _, _ => h
  | .drop, h, z, m => dropM h z m
  | .leave, h, z, _ => delM h z
def doW : Op9 → List Cl → List Cl → Int → Int → List Cl
  | .want, h, ws, z, m => (wantM h ws z m).1
  | .drop, _, ws, _, _ => ws
  | .leave, _, ws, z, _ => delM ws z
def doT : Op9 → List Cl → List Cl → Int → Int → List Cl
  | .want, h, ws, z, m => (wantM h ws z m).2
  | .drop, _, _, _, _ => []
  | .leave, _, _, _, _ => []
def newH (k : Op9) (h ws : List Cl) (z m : Int) : List Cl := if thereB z then givesM (doH k h z m) (srv (doH k h z m) (doW k h ws z m)) else h
def newW (k : Op9) (h ws : List Cl) (z m : Int) : List Cl := if thereB z then (doW k h ws z m).drop (srv (doH k h z m) (doW k h ws z m)).length else ws
def newT (k : Op9) (h ws : List Cl) (z m : Int) : List Cl := if thereB z then doT k h ws z m ++ srv (doH k h z m) (doW k h ws z m) else []
theorem doH_length (k : Op9) (h : List Cl) (z m : Int) : (doH k h z m).length ≤ h.length + 1 := by
  cases k with
  | want => exact Nat.le_succ _
  | drop =>
    show (dropM h z m).length ≤ _
    unfold dropM
    split
    · exact giveM_length _ _
    · exact Nat.le_succ _
  | leave => exact Nat.le_trans (delM_length h z) (Nat.le_succ _)
theorem doW_length (k : Op9) (h ws : List Cl) (z m : Int) : (doW k h ws z m).length ≤ ws.length + 1 := by
  cases k with
  | want =>
    show (wantM h ws z m).1.length ≤ _
    have := delM_length ws z
    unfold wantM
    split
    · exact Nat.le_succ _
    · split
      · exact Nat.le_succ _
      · split
        · simp
        · simp; omega
  | drop => exact Nat.le_succ _
  | leave => exact Nat.le_trans (delM_length ws z) (Nat.le_succ _)
theorem doT_length (k : Op9) (h ws : List Cl) (z m : Int) : (doT k h ws z m).length ≤ 1 := by
  cases k with
  | want =>
    show (wantM h ws z m).2.length ≤ _
    unfold wantM
    split
    · simp
    · split
      · simp
      · split <;> simp
  | drop => exact Nat.zero_le _
  | leave => exact Nat.zero_le _
theorem IsC.set_slice {w : World} {A : Option Addr} {n : Nat} {l : List Cl} (h : IsC w A n l) {p o : Nat} {B : Option Addr} {bn bc : Nat} (hc : w.cell? ⟨p, o, none⟩ = some (.slice B bn bc)) (v : Value) : IsC (w.setCell ⟨p, o, none⟩ v) A n l := by
  refine ⟨h.length, h.max, h.wf, fun h0 => ?_⟩
  obtain ⟨g, off, e, hg, hcs⟩ := h.cells h0
  refine ⟨g, off, e, by simp [World.setCell]; exact hg, fun i c hi => ?_⟩
  obtain ⟨c0, c1⟩ := hcs i c hi
  refine ⟨?_, ?_⟩
  · rw [World.cell?_setCell_other _ _ _ _ (fun e2 => by rw [e2] at hc; rw [hc] at c0; cases c0)]
    exact c0
  · rw [World.cell?_setCell_other _ _ _ _ (fun e2 => by rw [e2] at hc; rw [hc] at c1; cases c1)]
    exact c1
theorem there_iff {z : Int} (h : thereB z = true) : 0 ≤ z ∧ z < 8 := by simpa [thereB] using h
set_option maxRecDepth 100000 in
set_option maxHeartbeats 1000000 in
theorem Want_any (w : World) (v : Value) (h ws : List Cl) (x : IsQ w v h ws) (ok : OkQ h ws) (hh : h.length ≤ 50) (hw : ws.length ≤ 50) (z m : Int) :
    Calls Try.prog 75 #[v, .int .i64 z, .int .i64 m] w fun e w' => ∃ v' T, e = .returned (.tuple #[v', T]) ∧ IsQ w' v' (newH .want h ws z m) (newW .want h ws z m) ∧ IsS w' T (newT .want h ws z m) ∧ Below w.heap.size w w' := by
  obtain ⟨A, n, c, A2, n2, c2, rfl, i1, i2⟩ := x.is
  have X := Lib.hid x
  obtain ⟨W, HW⟩ : ∃ W, Hid ((w.alloc (.cells #[.slice A n c, .slice A2 n2 c2] 57)).alloc (.cells #[.slice none 0 0, .slice none 0 0] 57) = W) := ⟨_, Lib.hid rfl⟩
  obtain ⟨p, Hp⟩ : ∃ W, Hid (w.heap.size = W) := ⟨_, Lib.hid rfl⟩
  have HB : Hid (Below w.heap.size w W) := Lib.hid (by rw [← HW.out]; exact balloc (balloc (Below.refl _ _) _) _)
  have Hpl : Hid (p + 1 < W.heap.size) := Lib.hid (by rw [← HW.out, ← Hp.out]; simp)
  have Z0 : Hid (W.cell? ⟨p + 1, 0, none⟩ = some (.slice none 0 0)) := Lib.hid (by rw [← HW.out, ← Hp.out]; simp [go_sem])
  have Z1 : Hid (W.cell? ⟨p + 1, 1, none⟩ = some (.slice none 0 0)) := Lib.hid (by rw [← HW.out, ← Hp.out]; simp [go_sem])
  have F0 : Hid (W.frozen? ⟨p + 1, 0, none⟩ = false) := Lib.hid (by rw [← HW.out, ← Hp.out]; simp [go_sem])
  have F1 : Hid (W.frozen? ⟨p + 1, 1, none⟩ = false) := Lib.hid (by rw [← HW.out, ← Hp.out]; simp [go_sem])
  have HC := Lib.hid (change_any W (.agg #[.slice A n c, .slice A2 n2 c2]) h ws (X.out.below HB.out) ok hh hw z m 81 (doH .want h z m) (doW .want h ws z m) (doT .want h ws z m) (fun _ _ => rfl)
    (fun ht u L v1 v2 x => want_any u L v1 v2 h ws x z m (there_iff ht).1 (there_iff ht).2 (by omega)) (by have := doH_length .want h z m; omega) (by have := doW_length .want h ws z m; omega) (by have := doT_length .want h ws z m; omega))
  obtain ⟨RH, HRH⟩ : ∃ x, Hid (newH .want h ws z m = x) := ⟨_, Lib.hid rfl⟩
  obtain ⟨RW, HRW⟩ : ∃ x, Hid (newW .want h ws z m = x) := ⟨_, Lib.hid rfl⟩
  obtain ⟨RT, HRT⟩ : ∃ x, Hid (newT .want h ws z m = x) := ⟨_, Lib.hid rfl⟩
  rw [HRH.out, HRW.out, HRT.out]
  clear x i1 i2 ok hh hw
  go_enter Try.func75, Try.ntmps75
  go_wp2_with fail
  rw [HW.out, Hp.out]
  refine HC.out.mono ?_
  rintro e w1 ⟨v', T, rfl, hq, hs, hb⟩
  have hq2 : IsQ w1 v' RH RW := by rw [← HRH.out, ← HRW.out]; exact hq
  have hs2 : IsS w1 T RT := by rw [← HRT.out]; exact hs
  obtain ⟨Ax, nx, cx, Ay, ny, cy, rfl, j1, j2⟩ := hq2.is
  obtain ⟨At, nt, ct, rfl, j3⟩ := hs2.is
  have J1 := Lib.hid j1
  have J2 := Lib.hid j2
  have J3 := Lib.hid j3
  have B1 := Lib.hid hb
  have z0 := (hb.cell (p := ⟨p + 1, 0, none⟩) Hpl.out).trans Z0.out
  have z1 := (hb.cell (p := ⟨p + 1, 1, none⟩) Hpl.out).trans Z1.out
  have f0 := (hb.frozen (p := ⟨p + 1, 0, none⟩) Hpl.out).trans F0.out
  have f1 := (hb.frozen (p := ⟨p + 1, 1, none⟩) Hpl.out).trans F1.out
  have Hc := Lib.hid (And.intro z0 (And.intro z1 (And.intro f0 f1)))
  clear hq hs hq2 hs2 j1 j2 j3 hb
  go_wp2
  have e0 : ((w1.setCell ⟨p + 1, 0, none⟩ (.slice Ax nx cx)).setCell ⟨p + 1, 1, none⟩ (.slice Ay ny cy)).cell? ⟨p + 1, 0, none⟩ = some (.slice Ax nx cx) := set_other (by simp) (set_same Hc.out.1)
  have e1 : ((w1.setCell ⟨p + 1, 0, none⟩ (.slice Ax nx cx)).setCell ⟨p + 1, 1, none⟩ (.slice Ay ny cy)).cell? ⟨p + 1, 1, none⟩ = some (.slice Ay ny cy) := set_same (set_other (by simp) Hc.out.2.1)
  have k1 : (w1.setCell ⟨p + 1, 0, none⟩ (.slice Ax nx cx)).cell? ⟨p + 1, 1, none⟩ = some (.slice none 0 0) := set_other (by simp) Hc.out.2.1
  refine bodyPost_ret (v := .tuple #[.agg #[.slice Ax nx cx, .slice Ay ny cy], .slice At nt ct]) ?_ rfl ⟨_, _, rfl, ⟨Ax, nx, cx, Ay, ny, cy, rfl, (J1.out.set_slice Hc.out.1 _).set_slice k1 _, (J2.out.set_slice Hc.out.1 _).set_slice k1 _⟩, ⟨At, nt, ct, rfl, (J3.out.set_slice Hc.out.1 _).set_slice k1 _⟩, ?_⟩
  · rw [results_cell_tmp rfl]
    go_simp
  · refine bmod (bmod (bnext HB.out B1.out) ((Mod.refl (· = p + 1) w1).set1 _) ?_) ((Mod.refl (· = p + 1) _).set1 _) ?_
    · have := Hp.out; omega
    · have := Hp.out; omega
set_option maxRecDepth 100000 in
set_option maxHeartbeats 1000000 in
theorem Drop_any (w : World) (v : Value) (h ws : List Cl) (x : IsQ w v h ws) (ok : OkQ h ws) (hh : h.length ≤ 50) (hw : ws.length ≤ 50) (z m : Int) :
    Calls Try.prog 54 #[v, .int .i64 z, .int .i64 m] w fun e w' => ∃ v' T, e = .returned (.tuple #[v', T]) ∧ IsQ w' v' (newH .drop h ws z m) (newW .drop h ws z m) ∧ IsS w' T (newT .drop h ws z m) ∧ Below w.heap.size w w' := by
  obtain ⟨A, n, c, A2, n2, c2, rfl, i1, i2⟩ := x.is
  have X := Lib.hid x
  obtain ⟨W, HW⟩ : ∃ W, Hid ((w.alloc (.cells #[.slice A n c, .slice A2 n2 c2] 57)).alloc (.cells #[.slice none 0 0, .slice none 0 0] 57) = W) := ⟨_, Lib.hid rfl⟩
  obtain ⟨p, Hp⟩ : ∃ W, Hid (w.heap.size = W) := ⟨_, Lib.hid rfl⟩
  have HB : Hid (Below w.heap.size w W) := Lib.hid (by rw [← HW.out]; exact balloc (balloc (Below.refl _ _) _) _)
  have Hpl : Hid (p + 1 < W.heap.size) := Lib.hid (by rw [← HW.out, ← Hp.out]; simp)
  have Z0 : Hid (W.cell? ⟨p + 1, 0, none⟩ = some (.slice none 0 0)) := Lib.hid (by rw [← HW.out, ← Hp.out]; simp [go_sem])
  have Z1 : Hid (W.cell? ⟨p + 1, 1, none⟩ = some (.slice none 0 0)) := Lib.hid (by rw [← HW.out, ← Hp.out]; simp [go_sem])
  have F0 : Hid (W.frozen? ⟨p + 1, 0, none⟩ = false) := Lib.hid (by rw [← HW.out, ← Hp.out]; simp [go_sem])
  have F1 : Hid (W.frozen? ⟨p + 1, 1, none⟩ = false) := Lib.hid (by rw [← HW.out, ← Hp.out]; simp [go_sem])
  have HC := Lib.hid (change_any W (.agg #[.slice A n c, .slice A2 n2 c2]) h ws (X.out.below HB.out) ok hh hw z m 77 (doH .drop h z m) (doW .drop h ws z m) (doT .drop h ws z m) (fun _ _ => rfl)
    (fun ht u L v1 v2 x => drop_any u L v1 v2 h ws x z m (there_iff ht).1 (there_iff ht).2 (by omega)) (by have := doH_length .drop h z m; omega) (by have := doW_length .drop h ws z m; omega) (by have := doT_length .drop h ws z m; omega))
  obtain ⟨RH, HRH⟩ : ∃ x, Hid (newH .drop h ws z m = x) := ⟨_, Lib.hid rfl⟩
  obtain ⟨RW, HRW⟩ : ∃ x, Hid (newW .drop h ws z m = x) := ⟨_, Lib.hid rfl⟩
  obtain ⟨RT, HRT⟩ : ∃ x, Hid (newT .drop h ws z m = x) := ⟨_, Lib.hid rfl⟩
  rw [HRH.out, HRW.out, HRT.out]
  clear x i1 i2 ok hh hw
  go_enter Try.func54, Try.ntmps54
  go_wp2_with fail
  rw [HW.out, Hp.out]
  refine HC.out.mono ?_
  rintro e w1 ⟨v', T, rfl, hq, hs, hb⟩
  have hq2 : IsQ w1 v' RH RW := by rw [← HRH.out, ← HRW.out]; exact hq
  have hs2 : IsS w1 T RT := by rw [← HRT.out]; exact hs
  obtain ⟨Ax, nx, cx, Ay, ny, cy, rfl, j1, j2⟩ := hq2.is
  obtain ⟨At, nt, ct, rfl, j3⟩ := hs2.is
  have J1 := Lib.hid j1
  have J2 := Lib.hid j2
  have J3 := Lib.hid j3
  have B1 := Lib.hid hb
  have z0 := (hb.cell (p := ⟨p + 1, 0, none⟩) Hpl.out).trans Z0.out
  have z1 := (hb.cell (p := ⟨p + 1, 1, none⟩) Hpl.out).trans Z1.out
  have f0 := (hb.frozen (p := ⟨p + 1, 0, none⟩) Hpl.out).trans F0.out
  have f1 := (hb.frozen (p := ⟨p + 1, 1, none⟩) Hpl.out).trans F1.out
  have Hc := Lib.hid (And.intro z0 (And.intro z1 (And.intro f0 f1)))
  clear hq hs hq2 hs2 j1 j2 j3 hb
  go_wp2
  have e0 : ((w1.setCell ⟨p + 1, 0, none⟩ (.slice Ax nx cx)).setCell ⟨p + 1, 1, none⟩ (.slice Ay ny cy)).cell? ⟨p + 1, 0, none⟩ = some (.slice Ax nx cx) := set_other (by simp) (set_same Hc.out.1)
  have e1 : ((w1.setCell ⟨p + 1, 0, none⟩ (.slice Ax nx cx)).setCell ⟨p + 1, 1, none⟩ (.slice Ay ny cy)).cell? ⟨p + 1, 1, none⟩ = some (.slice Ay ny cy) := set_same (set_other (by simp) Hc.out.2.1)
  have k1 : (w1.setCell ⟨p + 1, 0, none⟩ (.slice Ax nx cx)).cell? ⟨p + 1, 1, none⟩ = some (.slice none 0 0) := set_other (by simp) Hc.out.2.1
  refine bodyPost_ret (v := .tuple #[.agg #[.slice Ax nx cx, .slice Ay ny cy], .slice At nt ct]) ?_ rfl ⟨_, _, rfl, ⟨Ax, nx, cx, Ay, ny, cy, rfl, (J1.out.set_slice Hc.out.1 _).set_slice k1 _, (J2.out.set_slice Hc.out.1 _).set_slice k1 _⟩, ⟨At, nt, ct, rfl, (J3.out.set_slice Hc.out.1 _).set_slice k1 _⟩, ?_⟩
  · rw [results_cell_tmp rfl]
    go_simp
  · refine bmod (bmod (bnext HB.out B1.out) ((Mod.refl (· = p + 1) w1).set1 _) ?_) ((Mod.refl (· = p + 1) _).set1 _) ?_
    · have := Hp.out; omega
    · have := Hp.out; omega
set_option maxRecDepth 100000 in
theorem Mode_any (w : World) (v : Value) (h ws : List Cl) (x : IsQ w v h ws) (z : Int) :
    Calls Try.prog 73 #[v, .int .i64 z] w fun e w' => e = .returned (.int .i64 (modeM h z)) ∧ Below w.heap.size w w' := by
  obtain ⟨A, n, c, A2, n2, c2, rfl, j1, j2⟩ := x.is
  have J1 := Lib.hid j1
  have J2 := Lib.hid j2
  obtain ⟨M, HM⟩ : ∃ x, Hid (modeM h z = x) := ⟨_, Lib.hid rfl⟩
  rw [HM.out]
  have HB : Hid (Below w.heap.size w (w.alloc (.cells #[.slice A n c, .slice A2 n2 c2] 57))) := Lib.hid (balloc (Below.refl _ _) _)
  clear x j1 j2
  go_enter Try.func73, Try.ntmps73
  go_wp2_with fail
  refine (modeIn_any _ A n c h (J1.out.below HB.out) z).mono ?_
  rw [HM.out]
  rintro e w1 ⟨rfl, hb⟩
  have Hb := Lib.hid (bnext HB.out hb)
  clear hb
  go_wp2
  go_ret
  exact ⟨rfl, Hb.out⟩
set_option maxRecDepth 100000 in
theorem Waiting_any (w : World) (v : Value) (h ws : List Cl) (x : IsQ w v h ws) (z : Int) :
    Calls Try.prog 74 #[v, .int .i64 z] w fun e w' => e = .returned (.int .i64 (modeM ws z)) ∧ Below w.heap.size w w' := by
  obtain ⟨A, n, c, A2, n2, c2, rfl, j1, j2⟩ := x.is
  have J1 := Lib.hid j1
  have J2 := Lib.hid j2
  obtain ⟨M, HM⟩ : ∃ x, Hid (modeM ws z = x) := ⟨_, Lib.hid rfl⟩
  rw [HM.out]
  have HB : Hid (Below w.heap.size w (w.alloc (.cells #[.slice A n c, .slice A2 n2 c2] 57))) := Lib.hid (balloc (Below.refl _ _) _)
  clear x j1 j2
  go_enter Try.func74, Try.ntmps74
  go_wp2_with fail
  refine (modeIn_any _ A2 n2 c2 ws (J2.out.below HB.out) z).mono ?_
  rw [HM.out]
  rintro e w1 ⟨rfl, hb⟩
  have Hb := Lib.hid (bnext HB.out hb)
  clear hb
  go_wp2
  go_ret
  exact ⟨rfl, Hb.out⟩
end Go.Proofs.Ythpmodohfjjjcaa
