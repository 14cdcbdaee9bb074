/- A statement's queue in a block; the chapter's examples. -/
import Derived.Test.YtbeoigkjlgimdaaPq9
namespace Go.Proofs.Ytbeoigkjlgimdaa
open Go.RowKit

/-- What can be read of claims in the one world can be read in the other. -/
def Kp (w w' : World) : Prop := ∀ A n l, IsC w A n l → IsC w' A n l
theorem Kp.of {w w' : World} (b : Below w.heap.size w w') : Kp w w' := fun _ _ _ h => h.below b
theorem Kp.trans {a b c : World} (h : Kp a b) (k : Kp b c) : Kp a c := fun A n l x => k A n l (h A n l x)
/-- A block that is a queue. -/
structure BoxQ (w : World) (b : Nat) (h ws : List Cl) : Prop where
  is : ∃ A n c A2 n2 c2, w.cell? ⟨b, 0, none⟩ = some (.slice A n c) ∧ w.cell? ⟨b, 1, none⟩ = some (.slice A2 n2 c2) ∧ IsC w A n h ∧ IsC w A2 n2 ws
  f0 : w.frozen? ⟨b, 0, none⟩ = false
  f1 : w.frozen? ⟨b, 1, none⟩ = false
theorem BoxQ.lt {w : World} {b : Nat} {h ws : List Cl} (x : BoxQ w b h ws) : b < w.heap.size := by
  obtain ⟨A, n, c, A2, n2, c2, h0, _⟩ := x.is
  exact lt_of_cell h0
theorem BoxQ.below {w w' : World} {b : Nat} {h ws : List Cl} (x : BoxQ w b h ws) (k : Below w.heap.size w w') : BoxQ w' b h ws := by
  have hl := x.lt
  obtain ⟨A, n, c, A2, n2, c2, h0, h1, i1, i2⟩ := x.is
  exact ⟨⟨A, n, c, A2, n2, c2, (k.cell (p := ⟨b, 0, none⟩) hl).trans h0, (k.cell (p := ⟨b, 1, none⟩) hl).trans h1, i1.below k, i2.below k⟩, (k.frozen (p := ⟨b, 0, none⟩) hl).trans x.f0, (k.frozen (p := ⟨b, 1, none⟩) hl).trans x.f1⟩
theorem BoxQ.new (w : World) : BoxQ (w.alloc (.cells #[.slice none 0 0, .slice none 0 0] 26)) w.heap.size [] [] :=
  ⟨⟨none, 0, 0, none, 0, 0, by simp [go_sem], by simp [go_sem], ⟨rfl, Nat.zero_le _, by simp, fun h => by omega⟩, ⟨rfl, Nat.zero_le _, by simp, fun h => by omega⟩⟩, by simp [go_sem], by simp [go_sem]⟩
/-- The world with another queue in a block. -/
def setQ (w : World) (b : Nat) (v1 v2 : Value) : World := (w.setCell ⟨b, 0, none⟩ v1).setCell ⟨b, 1, none⟩ v2
theorem BoxQ.kp {w : World} {b : Nat} {h ws : List Cl} (x : BoxQ w b h ws) (v1 v2 : Value) : Kp w (setQ w b v1 v2) := by
  obtain ⟨A, n, c, A2, n2, c2, h0, h1, _⟩ := x.is
  intro B m l hi
  exact (hi.set_slice h0 v1).set_slice (set_other (by simp) h1) v2
theorem BoxQ.set {w : World} {b : Nat} {h ws : List Cl} (x : BoxQ w b h ws) {A A2 : Option Addr} {n c n2 c2 : Nat} {h' ws' : List Cl} (i1 : IsC w A n h') (i2 : IsC w A2 n2 ws') : BoxQ (setQ w b (.slice A n c) (.slice A2 n2 c2)) b h' ws' := by
  have k := x.kp (.slice A n c) (.slice A2 n2 c2)
  obtain ⟨B, m, d, B2, m2, d2, h0, h1, _⟩ := x.is
  exact ⟨⟨A, n, c, A2, n2, c2, set_other (by simp) (set_same h0), set_same (set_other (by simp) h1), k _ _ _ i1, k _ _ _ i2⟩, by unfold setQ; rw [World.frozen?_setCell, World.frozen?_setCell]; exact x.f0, by unfold setQ; rw [World.frozen?_setCell, World.frozen?_setCell]; exact x.f1⟩
theorem BoxQ.other {w : World} {b b' : Nat} {h ws h' ws' : List Cl} (x : BoxQ w b h ws) (y : BoxQ w b' h' ws') (hne : b' ≠ b) (v1 v2 : Value) : BoxQ (setQ w b v1 v2) b' h' ws' := by
  have k := x.kp v1 v2
  obtain ⟨B, m, d, B2, m2, d2, h0, h1, i1, i2⟩ := y.is
  exact ⟨⟨B, m, d, B2, m2, d2, set_other (by simp) (set_other (by simp) h0), set_other (by simp) (set_other (by simp) h1), k _ _ _ i1, k _ _ _ i2⟩, by unfold setQ; rw [World.frozen?_setCell, World.frozen?_setCell]; exact y.f0, by unfold setQ; rw [World.frozen?_setCell, World.frozen?_setCell]; exact y.f1⟩
theorem setQ_mod (w : World) (b : Nat) (v1 v2 : Value) : Mod (· = b) w (setQ w b v1 v2) := ((Mod.refl _ w).set1 _).set1 _
theorem setQ_below {w u : World} {b : Nat} (h : Below w.heap.size w u) (hb : w.heap.size ≤ b) (v1 v2 : Value) : Below w.heap.size w (setQ u b v1 v2) := bmod h (setQ_mod u b v1 v2) hb
theorem isq_nil (w : World) : IsQ w (.agg #[.slice none 0 0, .slice none 0 0]) [] [] := ⟨none, 0, 0, none, 0, 0, rfl, ⟨rfl, Nat.zero_le _, by simp, fun h => by omega⟩, ⟨rfl, Nat.zero_le _, by simp, fun h => by omega⟩⟩
/-- One claim, read. -/
theorem IsC.first {w : World} {A : Option Addr} {n : Nat} {c : Cl} {l : List Cl} (h : IsC w A n (c :: l)) : ∃ g off, A = some ⟨g, off, none⟩ ∧ w.cell? ⟨g, off, none⟩ = some (.int .i64 c.1) ∧ w.cell? ⟨g, off + 1, none⟩ = some (.int .i64 c.2) ∧ n = l.length + 1 := by
  have hl := h.length
  rw [List.length_cons] at hl
  obtain ⟨g, off, e, _, hc⟩ := h.cells (by omega)
  obtain ⟨c0, c1⟩ := hc 0 c rfl
  rw [Nat.zero_mul, Nat.add_zero] at c0 c1
  exact ⟨g, off, e, c0, c1, hl.symm⟩
theorem IsC.none {w : World} {A : Option Addr} {n : Nat} (h : IsC w A n []) : n = 0 := by have := h.length; simpa using this.symm
theorem awake_ok : OkQ [(1, 1)] [] ∧ OkQ [(1, 1), (2, 1)] [] ∧ OkQ [(1, 1), (2, 1)] [(3, 2)] ∧ OkQ [(2, 1)] [(3, 2)] ∧ OkQ [(3, 2)] [] := by
  have k1 : OkQ [(1, 1)] [] := new_ok .want ok_empty 1 1
  have k2 : OkQ [(1, 1), (2, 1)] [] := new_ok .want k1 2 1
  have k3 : OkQ [(1, 1), (2, 1)] [(3, 2)] := new_ok .want k2 3 2
  have k4 : OkQ [(2, 1)] [(3, 2)] := new_ok .drop k3 1 0
  have k5 : OkQ [(3, 2)] [] := new_ok .drop k4 2 0
  exact ⟨k1, k2, k3, k4, k5⟩
set_option maxHeartbeats 2000000 in
set_option maxRecDepth 100000 in
theorem awake_any (w : World) : Calls Try.prog 7 #[] w fun e w' => e = .returned (.bool true) ∧ Below w.heap.size w w' := by
  have OK := Lib.hid awake_ok
  go_enter Try.func7, Try.ntmps7
  go_wp2_with fail
  refine (Want_any w (.agg #[.slice none 0 0, .slice none 0 0]) [] [] (isq_nil w) ok_empty (by decide) (by decide) 1 1).mono ?_
  rintro e w1 ⟨v1, T1, rfl, q1, s1, hb⟩
  obtain ⟨Ax, nx, cx, Ay, ny, cy, rfl, j1, j2⟩ := q1.is
  obtain ⟨At1, nt1, ct1, rfl, t1⟩ := s1.is
  have B1 := Lib.hid hb
  have J1 := Lib.hid j1
  have J2 := Lib.hid j2
  have T1 := Lib.hid t1
  clear q1 s1 j1 j2 t1 hb
  go_wp2_with fail
  obtain ⟨p, Hp⟩ : ∃ x, Hid (w1.heap.size = x) := ⟨_, Lib.hid rfl⟩
  obtain ⟨W1, HW1⟩ : ∃ x, Hid (w1.alloc (.cells #[.slice Ax nx cx, .slice Ay ny cy] 26) = x) := ⟨_, Lib.hid rfl⟩
  have BW1 : Hid (Below w.heap.size w W1) := Lib.hid (by rw [← HW1.out]; exact balloc B1.out _)
  have HpW : Hid (w.heap.size ≤ p) := Lib.hid (by rw [← Hp.out]; exact B1.out.size)
  have K1 : Kp w1 W1 := by rw [← HW1.out]; exact Kp.of (balloc (Below.refl _ _) _)
  have X1 : Hid (BoxQ W1 p [(1, 1)] []) := Lib.hid (by
    rw [← HW1.out, ← Hp.out]
    rw [← HW1.out] at K1
    exact ⟨⟨Ax, nx, cx, Ay, ny, cy, by simp [go_sem], by simp [go_sem], K1 _ _ _ J1.out, K1 _ _ _ J2.out⟩, by simp [go_sem], by simp [go_sem]⟩)
  have Q1 : Hid (IsC W1 Ax nx [(1, 1)] ∧ IsC W1 Ay ny []) := Lib.hid ⟨K1 _ _ _ J1.out, K1 _ _ _ J2.out⟩
  have L1 : Hid (IsC W1 At1 nt1 [(1, 1)]) := Lib.hid (K1 _ _ _ T1.out)
  rw [HW1.out, Hp.out]
  clear K1
  have k0 : W1.cell? ⟨p, 0, none⟩ = some (.slice Ax nx cx) := by rw [← HW1.out, ← Hp.out]; simp [go_sem]
  have k1 : W1.cell? ⟨p, 1, none⟩ = some (.slice Ay ny cy) := by rw [← HW1.out, ← Hp.out]; simp [go_sem]
  refine (Want_any W1 (.agg #[.slice Ax nx cx, .slice Ay ny cy]) [(1, 1)] [] ⟨_, _, _, _, _, _, rfl, Q1.out.1, Q1.out.2⟩ OK.out.1 (by decide) (by decide) 2 1).mono ?_
  rintro e u2 ⟨v2, T2, rfl, q2, s2, hb⟩
  obtain ⟨Bx2, mx2, dx2, By2, my2, dy2, rfl, j1, j2⟩ := q2.is
  obtain ⟨At2, nt2, ct2, rfl, t2⟩ := s2.is
  rw [show newH .want [(1, 1)] [] 2 1 = [(1, 1), (2, 1)] from by decide] at j1
  rw [show newW .want [(1, 1)] [] 2 1 = [] from by decide] at j2
  rw [show newT .want [(1, 1)] [] 2 1 = [(2, 1)] from by decide] at t2
  have Y2 := Lib.hid (X1.out.below hb)
  obtain ⟨W2, HW2⟩ : ∃ x, Hid ((u2.setCell ⟨p, 0, none⟩ (.slice Bx2 mx2 dx2)).setCell ⟨p, 1, none⟩ (.slice By2 my2 dy2) = x) := ⟨_, Lib.hid rfl⟩
  have K2 : Kp u2 W2 := by rw [← HW2.out]; exact Y2.out.kp _ _
  have BW2 : Hid (Below w.heap.size w W2) := Lib.hid (by rw [← HW2.out]; exact setQ_below (bnext BW1.out hb) HpW.out _ _)
  have X2 : Hid (BoxQ W2 p [(1, 1), (2, 1)] []) := Lib.hid (by rw [← HW2.out]; exact Y2.out.set j1 j2)
  have Q2 : Hid (IsC W2 Bx2 mx2 [(1, 1), (2, 1)] ∧ IsC W2 By2 my2 []) := Lib.hid ⟨K2 _ _ _ j1, K2 _ _ _ j2⟩
  have L2 : Hid (IsC W2 At2 nt2 [(2, 1)]) := Lib.hid (K2 _ _ _ t2)
  have z0 := (hb.cell (p := ⟨p, 0, none⟩) X1.out.lt).trans k0
  have z1 := (hb.cell (p := ⟨p, 1, none⟩) X1.out.lt).trans k1
  have f0 := Y2.out.f0
  have f1 := Y2.out.f1
  have e0 : ((u2.setCell ⟨p, 0, none⟩ (.slice Bx2 mx2 dx2)).setCell ⟨p, 1, none⟩ (.slice By2 my2 dy2)).cell? ⟨p, 0, none⟩ = some (.slice Bx2 mx2 dx2) := set_other (by simp) (set_same z0)
  have e1 : ((u2.setCell ⟨p, 0, none⟩ (.slice Bx2 mx2 dx2)).setCell ⟨p, 1, none⟩ (.slice By2 my2 dy2)).cell? ⟨p, 1, none⟩ = some (.slice By2 my2 dy2) := set_same (set_other (by simp) z1)
  have L1_2 := Lib.hid (K2 _ _ _ (L1.out.below hb))
  clear q2 s2 j1 j2 t2 hb K2 k0 k1
  go_wp2_with fail
  have k0 : W2.cell? ⟨p, 0, none⟩ = some (.slice Bx2 mx2 dx2) := by rw [← HW2.out]; exact e0
  have k1 : W2.cell? ⟨p, 1, none⟩ = some (.slice By2 my2 dy2) := by rw [← HW2.out]; exact e1
  clear z0 z1 f0 f1 e0 e1
  rw [HW2.out]
  refine (Want_any W2 (.agg #[.slice Bx2 mx2 dx2, .slice By2 my2 dy2]) [(1, 1), (2, 1)] [] ⟨_, _, _, _, _, _, rfl, Q2.out.1, Q2.out.2⟩ OK.out.2.1 (by decide) (by decide) 3 2).mono ?_
  rintro e u3 ⟨v3, T3, rfl, q3, s3, hb⟩
  obtain ⟨Bx3, mx3, dx3, By3, my3, dy3, rfl, j1, j2⟩ := q3.is
  obtain ⟨At3, nt3, ct3, rfl, t3⟩ := s3.is
  rw [show newH .want [(1, 1), (2, 1)] [] 3 2 = [(1, 1), (2, 1)] from by decide] at j1
  rw [show newW .want [(1, 1), (2, 1)] [] 3 2 = [(3, 2)] from by decide] at j2
  rw [show newT .want [(1, 1), (2, 1)] [] 3 2 = [] from by decide] at t3
  have Y3 := Lib.hid (X2.out.below hb)
  obtain ⟨W3, HW3⟩ : ∃ x, Hid ((u3.setCell ⟨p, 0, none⟩ (.slice Bx3 mx3 dx3)).setCell ⟨p, 1, none⟩ (.slice By3 my3 dy3) = x) := ⟨_, Lib.hid rfl⟩
  have K3 : Kp u3 W3 := by rw [← HW3.out]; exact Y3.out.kp _ _
  have BW3 : Hid (Below w.heap.size w W3) := Lib.hid (by rw [← HW3.out]; exact setQ_below (bnext BW2.out hb) HpW.out _ _)
  have X3 : Hid (BoxQ W3 p [(1, 1), (2, 1)] [(3, 2)]) := Lib.hid (by rw [← HW3.out]; exact Y3.out.set j1 j2)
  have Q3 : Hid (IsC W3 Bx3 mx3 [(1, 1), (2, 1)] ∧ IsC W3 By3 my3 [(3, 2)]) := Lib.hid ⟨K3 _ _ _ j1, K3 _ _ _ j2⟩
  have L3 : Hid (IsC W3 At3 nt3 []) := Lib.hid (K3 _ _ _ t3)
  have z0 := (hb.cell (p := ⟨p, 0, none⟩) X2.out.lt).trans k0
  have z1 := (hb.cell (p := ⟨p, 1, none⟩) X2.out.lt).trans k1
  have f0 := Y3.out.f0
  have f1 := Y3.out.f1
  have e0 : ((u3.setCell ⟨p, 0, none⟩ (.slice Bx3 mx3 dx3)).setCell ⟨p, 1, none⟩ (.slice By3 my3 dy3)).cell? ⟨p, 0, none⟩ = some (.slice Bx3 mx3 dx3) := set_other (by simp) (set_same z0)
  have e1 : ((u3.setCell ⟨p, 0, none⟩ (.slice Bx3 mx3 dx3)).setCell ⟨p, 1, none⟩ (.slice By3 my3 dy3)).cell? ⟨p, 1, none⟩ = some (.slice By3 my3 dy3) := set_same (set_other (by simp) z1)
  have L1_2_3 := Lib.hid (K3 _ _ _ (L1_2.out.below hb))
  have L2_3 := Lib.hid (K3 _ _ _ (L2.out.below hb))
  clear q3 s3 j1 j2 t3 hb K3 k0 k1
  go_wp2_with fail
  have k0 : W3.cell? ⟨p, 0, none⟩ = some (.slice Bx3 mx3 dx3) := by rw [← HW3.out]; exact e0
  have k1 : W3.cell? ⟨p, 1, none⟩ = some (.slice By3 my3 dy3) := by rw [← HW3.out]; exact e1
  clear z0 z1 f0 f1 e0 e1
  rw [HW3.out]
  refine (Calls_any W3 (.agg #[.slice Bx3 mx3 dx3, .slice By3 my3 dy3]) [(1, 1), (2, 1)] [(3, 2)] ⟨_, _, _, _, _, _, rfl, Q3.out.1, Q3.out.2⟩ (by decide)).mono ?_
  rintro e u4 ⟨T4, rfl, s4, hb⟩
  obtain ⟨At4, nt4, ct4, rfl, t4⟩ := s4.is
  have C4 : Hid (Below W3.heap.size W3 u4) := Lib.hid hb
  have L4 : Hid (IsC u4 At4 nt4 [(1, 0), (2, 0)]) := Lib.hid (by have h := t4; rw [show callsM [(1, 1), (2, 1)] [(3, 2)] = [(1, 0), (2, 0)] from by decide] at h; exact h)
  have X4 := Lib.hid (X3.out.below hb)
  have Q4 := Lib.hid (And.intro (Q3.out.1.below hb) (Q3.out.2.below hb))
  have BW4 : Hid (Below w.heap.size w u4) := Lib.hid (bnext BW3.out hb)
  have e0 := (hb.cell (p := ⟨p, 0, none⟩) X3.out.lt).trans k0
  have e1 := (hb.cell (p := ⟨p, 1, none⟩) X3.out.lt).trans k1
  have L1_2_3_4 := Lib.hid (L1_2_3.out.below hb)
  have L2_3_4 := Lib.hid (L2_3.out.below hb)
  have L3_4 := Lib.hid (L3.out.below hb)
  clear s4 t4 hb k0 k1
  go_wp2_with fail
  have k0 := e0
  have k1 := e1
  clear e0 e1
  refine (Drop_any u4 (.agg #[.slice Bx3 mx3 dx3, .slice By3 my3 dy3]) [(1, 1), (2, 1)] [(3, 2)] ⟨_, _, _, _, _, _, rfl, Q4.out.1, Q4.out.2⟩ OK.out.2.2.1 (by decide) (by decide) 1 0).mono ?_
  rintro e u5 ⟨v5, T5, rfl, q5, s5, hb⟩
  obtain ⟨Bx5, mx5, dx5, By5, my5, dy5, rfl, j1, j2⟩ := q5.is
  obtain ⟨At5, nt5, ct5, rfl, t5⟩ := s5.is
  rw [show newH .drop [(1, 1), (2, 1)] [(3, 2)] 1 0 = [(2, 1)] from by decide] at j1
  rw [show newW .drop [(1, 1), (2, 1)] [(3, 2)] 1 0 = [(3, 2)] from by decide] at j2
  rw [show newT .drop [(1, 1), (2, 1)] [(3, 2)] 1 0 = [] from by decide] at t5
  have Y5 := Lib.hid (X4.out.below hb)
  obtain ⟨W5, HW5⟩ : ∃ x, Hid ((u5.setCell ⟨p, 0, none⟩ (.slice Bx5 mx5 dx5)).setCell ⟨p, 1, none⟩ (.slice By5 my5 dy5) = x) := ⟨_, Lib.hid rfl⟩
  have K5 : Kp u5 W5 := by rw [← HW5.out]; exact Y5.out.kp _ _
  have BW5 : Hid (Below w.heap.size w W5) := Lib.hid (by rw [← HW5.out]; exact setQ_below (bnext BW4.out hb) HpW.out _ _)
  have X5 : Hid (BoxQ W5 p [(2, 1)] [(3, 2)]) := Lib.hid (by rw [← HW5.out]; exact Y5.out.set j1 j2)
  have Q5 : Hid (IsC W5 Bx5 mx5 [(2, 1)] ∧ IsC W5 By5 my5 [(3, 2)]) := Lib.hid ⟨K5 _ _ _ j1, K5 _ _ _ j2⟩
  have L5 : Hid (IsC W5 At5 nt5 []) := Lib.hid (K5 _ _ _ t5)
  have z0 := (hb.cell (p := ⟨p, 0, none⟩) X4.out.lt).trans k0
  have z1 := (hb.cell (p := ⟨p, 1, none⟩) X4.out.lt).trans k1
  have f0 := Y5.out.f0
  have f1 := Y5.out.f1
  have e0 : ((u5.setCell ⟨p, 0, none⟩ (.slice Bx5 mx5 dx5)).setCell ⟨p, 1, none⟩ (.slice By5 my5 dy5)).cell? ⟨p, 0, none⟩ = some (.slice Bx5 mx5 dx5) := set_other (by simp) (set_same z0)
  have e1 : ((u5.setCell ⟨p, 0, none⟩ (.slice Bx5 mx5 dx5)).setCell ⟨p, 1, none⟩ (.slice By5 my5 dy5)).cell? ⟨p, 1, none⟩ = some (.slice By5 my5 dy5) := set_same (set_other (by simp) z1)
  have L1_2_3_4_5 := Lib.hid (K5 _ _ _ (L1_2_3_4.out.below hb))
  have L2_3_4_5 := Lib.hid (K5 _ _ _ (L2_3_4.out.below hb))
  have L3_4_5 := Lib.hid (K5 _ _ _ (L3_4.out.below hb))
  have L4_5 := Lib.hid (K5 _ _ _ (L4.out.below hb))
  clear q5 s5 j1 j2 t5 hb K5 k0 k1
  go_wp2_with fail
  have k0 : W5.cell? ⟨p, 0, none⟩ = some (.slice Bx5 mx5 dx5) := by rw [← HW5.out]; exact e0
  have k1 : W5.cell? ⟨p, 1, none⟩ = some (.slice By5 my5 dy5) := by rw [← HW5.out]; exact e1
  clear z0 z1 f0 f1 e0 e1
  rw [HW5.out]
  refine (Drop_any W5 (.agg #[.slice Bx5 mx5 dx5, .slice By5 my5 dy5]) [(2, 1)] [(3, 2)] ⟨_, _, _, _, _, _, rfl, Q5.out.1, Q5.out.2⟩ OK.out.2.2.2.1 (by decide) (by decide) 2 0).mono ?_
  rintro e u6 ⟨v6, T6, rfl, q6, s6, hb⟩
  obtain ⟨Bx6, mx6, dx6, By6, my6, dy6, rfl, j1, j2⟩ := q6.is
  obtain ⟨At6, nt6, ct6, rfl, t6⟩ := s6.is
  rw [show newH .drop [(2, 1)] [(3, 2)] 2 0 = [(3, 2)] from by decide] at j1
  rw [show newW .drop [(2, 1)] [(3, 2)] 2 0 = [] from by decide] at j2
  rw [show newT .drop [(2, 1)] [(3, 2)] 2 0 = [(3, 2)] from by decide] at t6
  have Y6 := Lib.hid (X5.out.below hb)
  obtain ⟨W6, HW6⟩ : ∃ x, Hid ((u6.setCell ⟨p, 0, none⟩ (.slice Bx6 mx6 dx6)).setCell ⟨p, 1, none⟩ (.slice By6 my6 dy6) = x) := ⟨_, Lib.hid rfl⟩
  have K6 : Kp u6 W6 := by rw [← HW6.out]; exact Y6.out.kp _ _
  have BW6 : Hid (Below w.heap.size w W6) := Lib.hid (by rw [← HW6.out]; exact setQ_below (bnext BW5.out hb) HpW.out _ _)
  have X6 : Hid (BoxQ W6 p [(3, 2)] []) := Lib.hid (by rw [← HW6.out]; exact Y6.out.set j1 j2)
  have Q6 : Hid (IsC W6 Bx6 mx6 [(3, 2)] ∧ IsC W6 By6 my6 []) := Lib.hid ⟨K6 _ _ _ j1, K6 _ _ _ j2⟩
  have L6 : Hid (IsC W6 At6 nt6 [(3, 2)]) := Lib.hid (K6 _ _ _ t6)
  have z0 := (hb.cell (p := ⟨p, 0, none⟩) X5.out.lt).trans k0
  have z1 := (hb.cell (p := ⟨p, 1, none⟩) X5.out.lt).trans k1
  have f0 := Y6.out.f0
  have f1 := Y6.out.f1
  have e0 : ((u6.setCell ⟨p, 0, none⟩ (.slice Bx6 mx6 dx6)).setCell ⟨p, 1, none⟩ (.slice By6 my6 dy6)).cell? ⟨p, 0, none⟩ = some (.slice Bx6 mx6 dx6) := set_other (by simp) (set_same z0)
  have e1 : ((u6.setCell ⟨p, 0, none⟩ (.slice Bx6 mx6 dx6)).setCell ⟨p, 1, none⟩ (.slice By6 my6 dy6)).cell? ⟨p, 1, none⟩ = some (.slice By6 my6 dy6) := set_same (set_other (by simp) z1)
  have L1_2_3_4_5_6 := Lib.hid (K6 _ _ _ (L1_2_3_4_5.out.below hb))
  have L2_3_4_5_6 := Lib.hid (K6 _ _ _ (L2_3_4_5.out.below hb))
  have L3_4_5_6 := Lib.hid (K6 _ _ _ (L3_4_5.out.below hb))
  have L4_5_6 := Lib.hid (K6 _ _ _ (L4_5.out.below hb))
  have L5_6 := Lib.hid (K6 _ _ _ (L5.out.below hb))
  clear q6 s6 j1 j2 t6 hb K6 k0 k1
  obtain ⟨g1, o1, rfl, a1, b1, hl1⟩ := L1_2_3_4_5_6.out.first
  have hq1 : nt1 = 1 := hl1
  clear hl1
  subst hq1
  rw [← HW6.out] at a1 b1
  obtain ⟨g2, o2, rfl, a2, b2, hl2⟩ := L2_3_4_5_6.out.first
  have hq2 : nt2 = 1 := hl2
  clear hl2
  subst hq2
  rw [← HW6.out] at a2 b2
  obtain rfl : nt3 = 0 := L3_4_5_6.out.none
  obtain ⟨g4, o4, rfl, a4, b4, hl4⟩ := L4_5_6.out.first
  have hq4 : nt4 = 2 := hl4
  clear hl4
  subst hq4
  rw [← HW6.out] at a4 b4
  obtain rfl : nt5 = 0 := L5_6.out.none
  obtain ⟨g6, o6, rfl, a6, b6, hl6⟩ := L6.out.first
  have hq6 : nt6 = 1 := hl6
  clear hl6
  subst hq6
  rw [← HW6.out] at a6 b6
  have i20 : (0 : Int) < 2 := by decide
  go_wp2_with fail
  rw [HW6.out]
  refine (Mode_any W6 (.agg #[.slice Bx6 mx6 dx6, .slice By6 my6 dy6]) [(3, 2)] [] ⟨_, _, _, _, _, _, rfl, Q6.out.1, Q6.out.2⟩ 3).mono ?_
  rw [show modeM [(3, 2)] 3 = 2 from by decide]
  rintro e u7 ⟨rfl, hb⟩
  have BE := Lib.hid (bnext BW6.out hb)
  clear hb
  go_wp2
  go_ret
  exact ⟨rfl, BE.out⟩
end Go.Proofs.Ytbeoigkjlgimdaa
