/- A call is looked at: its numbers, the names of its paths. -/
import Derived.Test.YtiomhdanmcnaeaaGreatDoorUh16
namespace Go.Proofs.YtiomhdanmcnaeaaGreatDoor
open Go.RowKit

@[reducible] def ask0 : Array Value := #[.int .i64 0, .string (str []), .string (str []), .int .i64 0, .int .i64 0, .string (str []), .slice none 0 0, .slice none 0 0, .int .i64 0]
@[reducible] def setA (w : World) (p : Nat) (c : Cal) (P Q : Value) (k : Int) : World := ((((((((w.setCell ⟨p, 0, none⟩ (.int .i64 c.op)).setCell ⟨p, 1, none⟩ (.string (str c.path))).setCell ⟨p, 2, none⟩ (.string (str c.dst))).setCell ⟨p, 3, none⟩ (.int .i64 c.off)).setCell ⟨p, 4, none⟩ (.int .i64 c.n)).setCell ⟨p, 5, none⟩ (.string (str c.data))).setCell ⟨p, 6, none⟩ (P)).setCell ⟨p, 7, none⟩ (Q)).setCell ⟨p, 8, none⟩ (.int .i64 k)
theorem setA_mod (w : World) (p : Nat) (c : Cal) (P Q : Value) (k : Int) : Mod (· = p) w (setA w p c P Q k) := (((((((((Mod.refl _ w).set1 _).set1 _).set1 _).set1 _).set1 _).set1 _).set1 _).set1 _).set1 _
theorem setA_box {w : World} {p : Nat} {t : TypeId} (h : BoxC w p ask0 t) (c : Cal) (P Q : Value) (k : Int) : BoxC (setA w p c P Q k) p (askC c P Q k) t := by
  have h0 := BoxC.put (cs := #[.int .i64 0, .string (str []), .string (str []), .int .i64 0, .int .i64 0, .string (str []), .slice none 0 0, .slice none 0 0, .int .i64 0]) h 0 (.int .i64 c.op)
  rw [show (#[.int .i64 0, .string (str []), .string (str []), .int .i64 0, .int .i64 0, .string (str []), .slice none 0 0, .slice none 0 0, .int .i64 0] : Array Value).setIfInBounds 0 (.int .i64 c.op) = #[.int .i64 c.op, .string (str []), .string (str []), .int .i64 0, .int .i64 0, .string (str []), .slice none 0 0, .slice none 0 0, .int .i64 0] from rfl] at h0
  have h1 := h0.put 1 (.string (str c.path))
  rw [show (#[.int .i64 c.op, .string (str []), .string (str []), .int .i64 0, .int .i64 0, .string (str []), .slice none 0 0, .slice none 0 0, .int .i64 0] : Array Value).setIfInBounds 1 (.string (str c.path)) = #[.int .i64 c.op, .string (str c.path), .string (str []), .int .i64 0, .int .i64 0, .string (str []), .slice none 0 0, .slice none 0 0, .int .i64 0] from rfl] at h1
  have h2 := h1.put 2 (.string (str c.dst))
  rw [show (#[.int .i64 c.op, .string (str c.path), .string (str []), .int .i64 0, .int .i64 0, .string (str []), .slice none 0 0, .slice none 0 0, .int .i64 0] : Array Value).setIfInBounds 2 (.string (str c.dst)) = #[.int .i64 c.op, .string (str c.path), .string (str c.dst), .int .i64 0, .int .i64 0, .string (str []), .slice none 0 0, .slice none 0 0, .int .i64 0] from rfl] at h2
  have h3 := h2.put 3 (.int .i64 c.off)
  rw [show (#[.int .i64 c.op, .string (str c.path), .string (str c.dst), .int .i64 0, .int .i64 0, .string (str []), .slice none 0 0, .slice none 0 0, .int .i64 0] : Array Value).setIfInBounds 3 (.int .i64 c.off) = #[.int .i64 c.op, .string (str c.path), .string (str c.dst), .int .i64 c.off, .int .i64 0, .string (str []), .slice none 0 0, .slice none 0 0, .int .i64 0] from rfl] at h3
  have h4 := h3.put 4 (.int .i64 c.n)
  rw [show (#[.int .i64 c.op, .string (str c.path), .string (str c.dst), .int .i64 c.off, .int .i64 0, .string (str []), .slice none 0 0, .slice none 0 0, .int .i64 0] : Array Value).setIfInBounds 4 (.int .i64 c.n) = #[.int .i64 c.op, .string (str c.path), .string (str c.dst), .int .i64 c.off, .int .i64 c.n, .string (str []), .slice none 0 0, .slice none 0 0, .int .i64 0] from rfl] at h4
  have h5 := h4.put 5 (.string (str c.data))
  rw [show (#[.int .i64 c.op, .string (str c.path), .string (str c.dst), .int .i64 c.off, .int .i64 c.n, .string (str []), .slice none 0 0, .slice none 0 0, .int .i64 0] : Array Value).setIfInBounds 5 (.string (str c.data)) = #[.int .i64 c.op, .string (str c.path), .string (str c.dst), .int .i64 c.off, .int .i64 c.n, .string (str c.data), .slice none 0 0, .slice none 0 0, .int .i64 0] from rfl] at h5
  have h6 := h5.put 6 (P)
  rw [show (#[.int .i64 c.op, .string (str c.path), .string (str c.dst), .int .i64 c.off, .int .i64 c.n, .string (str c.data), .slice none 0 0, .slice none 0 0, .int .i64 0] : Array Value).setIfInBounds 6 (P) = #[.int .i64 c.op, .string (str c.path), .string (str c.dst), .int .i64 c.off, .int .i64 c.n, .string (str c.data), P, .slice none 0 0, .int .i64 0] from rfl] at h6
  have h7 := h6.put 7 (Q)
  rw [show (#[.int .i64 c.op, .string (str c.path), .string (str c.dst), .int .i64 c.off, .int .i64 c.n, .string (str c.data), P, .slice none 0 0, .int .i64 0] : Array Value).setIfInBounds 7 (Q) = #[.int .i64 c.op, .string (str c.path), .string (str c.dst), .int .i64 c.off, .int .i64 c.n, .string (str c.data), P, Q, .int .i64 0] from rfl] at h7
  have h8 := h7.put 8 (.int .i64 k)
  rw [show (#[.int .i64 c.op, .string (str c.path), .string (str c.dst), .int .i64 c.off, .int .i64 c.n, .string (str c.data), P, Q, .int .i64 0] : Array Value).setIfInBounds 8 (.int .i64 k) = #[.int .i64 c.op, .string (str c.path), .string (str c.dst), .int .i64 c.off, .int .i64 c.n, .string (str c.data), P, Q, .int .i64 k] from rfl] at h8
  exact h8
/-- The call's own box, the result's, and that of what is asked. -/
theorem mx_below {w w' : World} (h : Mx w) (b : Below w.heap.size w w') : Mx w' := h.below b
set_option maxRecDepth 100000 in
theorem right_1 (w : World) (dst0 pth0 : List UInt8) (off nn : Int) (data : List UInt8) : Calls Tryz.prog 23 #[calV ⟨1, pth0, dst0, off, nn, data⟩] w fun e w' => e = .returned (.bool true) ∧ Below w.heap.size w w' := by
  go_enter Tryz.func23, Tryz.ntmps23
  go_wp2
  go_ret
  exact ⟨rfl, (Below.refl _ _).alloc (Nat.le_refl _) _⟩
set_option maxRecDepth 100000 in
theorem many_1 (w : World) (dst0 pth0 : List UInt8) (off nn : Int) (data : List UInt8) : Calls Tryz.prog 24 #[calV ⟨1, pth0, dst0, off, nn, data⟩] w fun e w' => e = .returned (.bool false) ∧ Below w.heap.size w w' := by
  go_enter Tryz.func24, Tryz.ntmps24
  go_wp2
  go_ret
  exact ⟨rfl, (Below.refl _ _).alloc (Nat.le_refl _) _⟩
set_option maxRecDepth 100000 in
set_option maxHeartbeats 4000000 in
theorem paths_1 (X : List (List UInt8)) (hX : PathOk X) (hl : (pathOf X).length ≤ 1000000) (hle : 1 ≤ X.length) (off nn : Int) (data : List UInt8) (dst : List UInt8) (w : World) (hm : Mx w) :
    Calls Tryz.prog 22 #[calV ⟨1, pathOf X, dst, off, nn, data⟩] w fun e w' => ∃ A k c, e = .returned (.tuple #[askV ⟨1, pathOf X, dst, off, nn, data⟩ (.slice A k c) (.slice none 0 0) 0, .bool true]) ∧ k = X.length ∧ k ≤ c ∧ IsG w' 1 encT A k X ∧ (∀ g off, A = some ⟨g, off, none⟩ → w.heap.size ≤ g) ∧ Below w.heap.size w w' := by
  obtain ⟨l, Hl⟩ : ∃ r, Hid (pathOf X = r) := ⟨_, Lib.hid rfl⟩
  rw [Hl.out]
  go_enter Tryz.func22, Tryz.ntmps22
  go_upto_region 2 with (fail)
  obtain ⟨w1, Hw1⟩ : ∃ u, Hid (w.alloc (.cells #[.int .i64 1, .string (str l), .string (str dst), .int .i64 off, .int .i64 nn, .string (str data)] 32) = u) := ⟨_, Lib.hid rfl⟩
  obtain ⟨w2, Hw2⟩ : ∃ u, Hid (w1.alloc (.cells ask0 49) = u) := ⟨_, Lib.hid rfl⟩
  obtain ⟨w3, Hw3⟩ : ∃ u, Hid (w2.alloc (.cells #[.int .i64 1, .string (str l), .string (str dst), .int .i64 off, .int .i64 nn, .string (str data), .slice none 0 0, .slice none 0 0, .int .i64 0] 49) = u) := ⟨_, Lib.hid rfl⟩
  obtain ⟨q, Hq⟩ : ∃ u, Hid (w.heap.size = u) := ⟨_, Lib.hid rfl⟩
  obtain ⟨p, Hp⟩ : ∃ u, Hid (w.heap.size + 1 = u) := ⟨_, Lib.hid rfl⟩
  obtain ⟨r, Hr⟩ : ∃ u, Hid (w.heap.size + 1 + 1 = u) := ⟨_, Lib.hid rfl⟩
  have e1 : w1.heap.size = p := by rw [← Hw1.out, ← Hp.out]; simp
  have e2 : w2.heap.size = r := by rw [← Hw2.out, ← Hr.out, Hp.out, ← e1]; simp
  have b1 : Below w.heap.size w w1 := by rw [← Hw1.out]; exact balloc (Below.refl _ _) _
  have b2 : Below w1.heap.size w1 w2 := by rw [← Hw2.out]; exact balloc (Below.refl _ _) _
  have b3 : Below w2.heap.size w2 w3 := by rw [← Hw3.out]; exact balloc (Below.refl _ _) _
  have Q3 : Hid (BoxC w3 q #[.int .i64 1, .string (str l), .string (str dst), .int .i64 off, .int .i64 nn, .string (str data)] 32) := Lib.hid (by
    have h : BoxC w1 q #[.int .i64 1, .string (str l), .string (str dst), .int .i64 off, .int .i64 nn, .string (str data)] 32 := by rw [← Hw1.out, ← Hq.out]; exact BoxC.new w _ _
    exact (h.below b2).below b3)
  have P3 : Hid (BoxC w3 p ask0 49) := Lib.hid (by
    have h : BoxC w2 p ask0 49 := by rw [← Hw2.out, ← e1]; exact BoxC.new w1 _ _
    exact h.below b3)
  have R3 : Hid (BoxC w3 r #[.int .i64 1, .string (str l), .string (str dst), .int .i64 off, .int .i64 nn, .string (str data), .slice none 0 0, .slice none 0 0, .int .i64 0] 49) := Lib.hid (by rw [← Hw3.out, ← e2]; exact BoxC.new w2 _ _)
  have B3 : Hid (Below w.heap.size w w3) := Lib.hid (bnext (bnext b1 b2) b3)
  have hpr : p ≠ r := by have := Hp.out; have := Hr.out; omega
  have hqr : q ≠ r := by have := Hq.out; have := Hr.out; omega
  clear b1 b2 b3 e1 e2
  rw [Hw1.out, Hw2.out, Hw3.out, Hr.out, Hp.out, Hq.out]
  have hln : True := trivial
  have c0 := Q3.out.cell 0 rfl
  have c1 := Q3.out.cell 1 rfl
  have c2 := Q3.out.cell 2 rfl
  go_wp2_with fail
  rw [show str l = str (pathOf X) by rw [Hl.out]]
  refine (names_any X hX hl 1 hle w3 (hm.below B3.out)).mono ?_
  rintro e w4 ⟨A, k, c, rfl, hkX, hkc, hnw, hG, hb⟩
  have B4 := Lib.hid (bnext B3.out hb)
  have Q4 := Lib.hid (Q3.out.below hb)
  have P4 := Lib.hid (P3.out.below hb)
  have R4 := Lib.hid (R3.out.below hb)
  have HGk := Lib.hid hG
  have HKk := Lib.hid (And.intro hkX hkc)
  have hwlt := R3.out.lt
  have HNk := Lib.hid hnw
  clear hb hG hkX hkc hnw
  have rc := R4.out.cell 6 rfl
  have rf := R4.out.free 6
  go_upto_region 14 with (fail)
  clear rc rf
  obtain ⟨w5, Hw5⟩ : ∃ u, Hid (w4.setCell ⟨r, 6, none⟩ (.slice A k c) = u) := ⟨_, Lib.hid rfl⟩
  have M5 : Hid (Mod (· = r) w4 w5) := Lib.hid (by rw [← Hw5.out]; exact (Mod.refl _ w4).set1 _)
  have R5 := Lib.hid (R4.out.put 6 (.slice A k c))
  rw [Hw5.out] at R5
  have P5 := Lib.hid (P4.out.kept M5.out hpr)
  have Q5 := Lib.hid (Q4.out.kept M5.out hqr)
  have B5 : Hid (Below w.heap.size w w5) := Lib.hid (bmod B4.out M5.out (by have := Hr.out; omega))
  have Gk : Hid (IsG w5 1 encT A k X) := Lib.hid (HGk.out.later M5.out (fun g off e _ e2 => by have h1 := HNk.out g off e; have h2 : g = r := e2; omega))
  rw [Hw5.out]
  have z0 := P5.out.cell 0 rfl
  have f0 := P5.out.free 0
  have z1 := P5.out.cell 1 rfl
  have f1 := P5.out.free 1
  have z2 := P5.out.cell 2 rfl
  have f2 := P5.out.free 2
  have z3 := P5.out.cell 3 rfl
  have f3 := P5.out.free 3
  have z4 := P5.out.cell 4 rfl
  have f4 := P5.out.free 4
  have z5 := P5.out.cell 5 rfl
  have f5 := P5.out.free 5
  have z6 := P5.out.cell 6 rfl
  have f6 := P5.out.free 6
  have z7 := P5.out.cell 7 rfl
  have f7 := P5.out.free 7
  have z8 := P5.out.cell 8 rfl
  have f8 := P5.out.free 8
  have v0 := R5.out.cell 0 rfl
  have v1 := R5.out.cell 1 rfl
  have v2 := R5.out.cell 2 rfl
  have v3 := R5.out.cell 3 rfl
  have v4 := R5.out.cell 4 rfl
  have v5 := R5.out.cell 5 rfl
  have v6 := R5.out.cell 6 rfl
  have v7 := R5.out.cell 7 rfl
  have v8 := R5.out.cell 8 rfl
  have PZ := Lib.hid (setA_box P5.out (⟨1, l, dst, off, nn, data⟩ : Cal) (.slice A k c) (.slice none 0 0) 0)
  have BZ : Hid (Below w.heap.size w (setA w5 p (⟨1, l, dst, off, nn, data⟩ : Cal) (.slice A k c) (.slice none 0 0) 0)) := Lib.hid (bmod B5.out (setA_mod w5 p (⟨1, l, dst, off, nn, data⟩ : Cal) (.slice A k c) (.slice none 0 0) 0) (by have := Hp.out; omega))
  have GZ : Hid (IsG (setA w5 p (⟨1, l, dst, off, nn, data⟩ : Cal) (.slice A k c) (.slice none 0 0) 0) 1 encT A k X) := Lib.hid ((Gk.out).later (setA_mod w5 p (⟨1, l, dst, off, nn, data⟩ : Cal) (.slice A k c) (.slice none 0 0) 0) (fun g off e _ e2 => by have h1 := HNk.out g off e; have h2 : g = p := e2; have h3 := P3.out.lt; omega))
  go_wp2
  obtain ⟨wz, Hwz⟩ : ∃ u, Hid (setA w5 p (⟨1, l, dst, off, nn, data⟩ : Cal) (.slice A k c) (.slice none 0 0) 0 = u) := ⟨_, Lib.hid rfl⟩
  rw [Hwz.out] at PZ BZ GZ
  rw [show ((((((((w5.setCell ⟨p, 0, none⟩ (.int .i64 1)).setCell ⟨p, 1, none⟩ (.string (str l))).setCell ⟨p, 2, none⟩ (.string (str dst))).setCell ⟨p, 3, none⟩ (.int .i64 off)).setCell ⟨p, 4, none⟩ (.int .i64 nn)).setCell ⟨p, 5, none⟩ (.string (str data))).setCell ⟨p, 6, none⟩ (.slice A k c)).setCell ⟨p, 7, none⟩ (.slice none 0 0)).setCell ⟨p, 8, none⟩ (.int .i64 0) = wz from Hwz.out]
  have s0 := PZ.out.cell 0 rfl
  have s1 := PZ.out.cell 1 rfl
  have s2 := PZ.out.cell 2 rfl
  have s3 := PZ.out.cell 3 rfl
  have s4 := PZ.out.cell 4 rfl
  have s5 := PZ.out.cell 5 rfl
  have s6 := PZ.out.cell 6 rfl
  have s7 := PZ.out.cell 7 rfl
  have s8 := PZ.out.cell 8 rfl
  exact bodyPost_ret (v := .tuple #[askV (⟨1, l, dst, off, nn, data⟩ : Cal) (.slice A k c) (.slice none 0 0) 0, .bool true]) (by simp [results, Tryz.results22, go_sem, s0, s1, s2, s3, s4, s5, s6, s7, s8]) rfl ⟨A, k, c, rfl, HKk.out.1, HKk.out.2, GZ.out, (fun g off e => Nat.le_trans B3.out.size (HNk.out g off e)), BZ.out⟩
set_option maxRecDepth 100000 in
theorem right_2 (w : World) (dst0 pth0 : List UInt8) (off nn : Int) (data : List UInt8) : Calls Tryz.prog 23 #[calV ⟨2, pth0, dst0, off, nn, data⟩] w fun e w' => e = .returned (.bool true) ∧ Below w.heap.size w w' := by
  go_enter Tryz.func23, Tryz.ntmps23
  go_wp2
  go_ret
  exact ⟨rfl, (Below.refl _ _).alloc (Nat.le_refl _) _⟩
set_option maxRecDepth 100000 in
theorem many_2 (w : World) (dst0 pth0 : List UInt8) (off nn : Int) (data : List UInt8) : Calls Tryz.prog 24 #[calV ⟨2, pth0, dst0, off, nn, data⟩] w fun e w' => e = .returned (.bool false) ∧ Below w.heap.size w w' := by
  go_enter Tryz.func24, Tryz.ntmps24
  go_wp2
  go_ret
  exact ⟨rfl, (Below.refl _ _).alloc (Nat.le_refl _) _⟩
set_option maxRecDepth 100000 in
set_option maxHeartbeats 4000000 in
theorem paths_2 (X : List (List UInt8)) (hX : PathOk X) (hl : (pathOf X).length ≤ 1000000) (hle : 1 ≤ X.length) (off nn : Int) (data : List UInt8) (dst : List UInt8) (w : World) (hm : Mx w) :
    Calls Tryz.prog 22 #[calV ⟨2, pathOf X, dst, off, nn, data⟩] w fun e w' => ∃ A k c, e = .returned (.tuple #[askV ⟨2, pathOf X, dst, off, nn, data⟩ (.slice A k c) (.slice none 0 0) 0, .bool true]) ∧ k = X.length ∧ k ≤ c ∧ IsG w' 1 encT A k X ∧ (∀ g off, A = some ⟨g, off, none⟩ → w.heap.size ≤ g) ∧ Below w.heap.size w w' := by
  obtain ⟨l, Hl⟩ : ∃ r, Hid (pathOf X = r) := ⟨_, Lib.hid rfl⟩
  rw [Hl.out]
  go_enter Tryz.func22, Tryz.ntmps22
  go_upto_region 2 with (fail)
  obtain ⟨w1, Hw1⟩ : ∃ u, Hid (w.alloc (.cells #[.int .i64 2, .string (str l), .string (str dst), .int .i64 off, .int .i64 nn, .string (str data)] 32) = u) := ⟨_, Lib.hid rfl⟩
  obtain ⟨w2, Hw2⟩ : ∃ u, Hid (w1.alloc (.cells ask0 49) = u) := ⟨_, Lib.hid rfl⟩
  obtain ⟨w3, Hw3⟩ : ∃ u, Hid (w2.alloc (.cells #[.int .i64 2, .string (str l), .string (str dst), .int .i64 off, .int .i64 nn, .string (str data), .slice none 0 0, .slice none 0 0, .int .i64 0] 49) = u) := ⟨_, Lib.hid rfl⟩
  obtain ⟨q, Hq⟩ : ∃ u, Hid (w.heap.size = u) := ⟨_, Lib.hid rfl⟩
  obtain ⟨p, Hp⟩ : ∃ u, Hid (w.heap.size + 1 = u) := ⟨_, Lib.hid rfl⟩
  obtain ⟨r, Hr⟩ : ∃ u, Hid (w.heap.size + 1 + 1 = u) := ⟨_, Lib.hid rfl⟩
  have e1 : w1.heap.size = p := by rw [← Hw1.out, ← Hp.out]; simp
  have e2 : w2.heap.size = r := by rw [← Hw2.out, ← Hr.out, Hp.out, ← e1]; simp
  have b1 : Below w.heap.size w w1 := by rw [← Hw1.out]; exact balloc (Below.refl _ _) _
  have b2 : Below w1.heap.size w1 w2 := by rw [← Hw2.out]; exact balloc (Below.refl _ _) _
  have b3 : Below w2.heap.size w2 w3 := by rw [← Hw3.out]; exact balloc (Below.refl _ _) _
  have Q3 : Hid (BoxC w3 q #[.int .i64 2, .string (str l), .string (str dst), .int .i64 off, .int .i64 nn, .string (str data)] 32) := Lib.hid (by
    have h : BoxC w1 q #[.int .i64 2, .string (str l), .string (str dst), .int .i64 off, .int .i64 nn, .string (str data)] 32 := by rw [← Hw1.out, ← Hq.out]; exact BoxC.new w _ _
    exact (h.below b2).below b3)
  have P3 : Hid (BoxC w3 p ask0 49) := Lib.hid (by
    have h : BoxC w2 p ask0 49 := by rw [← Hw2.out, ← e1]; exact BoxC.new w1 _ _
    exact h.below b3)
  have R3 : Hid (BoxC w3 r #[.int .i64 2, .string (str l), .string (str dst), .int .i64 off, .int .i64 nn, .string (str data), .slice none 0 0, .slice none 0 0, .int .i64 0] 49) := Lib.hid (by rw [← Hw3.out, ← e2]; exact BoxC.new w2 _ _)
  have B3 : Hid (Below w.heap.size w w3) := Lib.hid (bnext (bnext b1 b2) b3)
  have hpr : p ≠ r := by have := Hp.out; have := Hr.out; omega
  have hqr : q ≠ r := by have := Hq.out; have := Hr.out; omega
  clear b1 b2 b3 e1 e2
  rw [Hw1.out, Hw2.out, Hw3.out, Hr.out, Hp.out, Hq.out]
  have hln : True := trivial
  have c0 := Q3.out.cell 0 rfl
  have c1 := Q3.out.cell 1 rfl
  have c2 := Q3.out.cell 2 rfl
  go_wp2_with fail
  rw [show str l = str (pathOf X) by rw [Hl.out]]
  refine (names_any X hX hl 1 hle w3 (hm.below B3.out)).mono ?_
  rintro e w4 ⟨A, k, c, rfl, hkX, hkc, hnw, hG, hb⟩
  have B4 := Lib.hid (bnext B3.out hb)
  have Q4 := Lib.hid (Q3.out.below hb)
  have P4 := Lib.hid (P3.out.below hb)
  have R4 := Lib.hid (R3.out.below hb)
  have HGk := Lib.hid hG
  have HKk := Lib.hid (And.intro hkX hkc)
  have hwlt := R3.out.lt
  have HNk := Lib.hid hnw
  clear hb hG hkX hkc hnw
  have rc := R4.out.cell 6 rfl
  have rf := R4.out.free 6
  go_upto_region 14 with (fail)
  clear rc rf
  obtain ⟨w5, Hw5⟩ : ∃ u, Hid (w4.setCell ⟨r, 6, none⟩ (.slice A k c) = u) := ⟨_, Lib.hid rfl⟩
  have M5 : Hid (Mod (· = r) w4 w5) := Lib.hid (by rw [← Hw5.out]; exact (Mod.refl _ w4).set1 _)
  have R5 := Lib.hid (R4.out.put 6 (.slice A k c))
  rw [Hw5.out] at R5
  have P5 := Lib.hid (P4.out.kept M5.out hpr)
  have Q5 := Lib.hid (Q4.out.kept M5.out hqr)
  have B5 : Hid (Below w.heap.size w w5) := Lib.hid (bmod B4.out M5.out (by have := Hr.out; omega))
  have Gk : Hid (IsG w5 1 encT A k X) := Lib.hid (HGk.out.later M5.out (fun g off e _ e2 => by have h1 := HNk.out g off e; have h2 : g = r := e2; omega))
  rw [Hw5.out]
  have z0 := P5.out.cell 0 rfl
  have f0 := P5.out.free 0
  have z1 := P5.out.cell 1 rfl
  have f1 := P5.out.free 1
  have z2 := P5.out.cell 2 rfl
  have f2 := P5.out.free 2
  have z3 := P5.out.cell 3 rfl
  have f3 := P5.out.free 3
  have z4 := P5.out.cell 4 rfl
  have f4 := P5.out.free 4
  have z5 := P5.out.cell 5 rfl
  have f5 := P5.out.free 5
  have z6 := P5.out.cell 6 rfl
  have f6 := P5.out.free 6
  have z7 := P5.out.cell 7 rfl
  have f7 := P5.out.free 7
  have z8 := P5.out.cell 8 rfl
  have f8 := P5.out.free 8
  have v0 := R5.out.cell 0 rfl
  have v1 := R5.out.cell 1 rfl
  have v2 := R5.out.cell 2 rfl
  have v3 := R5.out.cell 3 rfl
  have v4 := R5.out.cell 4 rfl
  have v5 := R5.out.cell 5 rfl
  have v6 := R5.out.cell 6 rfl
  have v7 := R5.out.cell 7 rfl
  have v8 := R5.out.cell 8 rfl
  have PZ := Lib.hid (setA_box P5.out (⟨2, l, dst, off, nn, data⟩ : Cal) (.slice A k c) (.slice none 0 0) 0)
  have BZ : Hid (Below w.heap.size w (setA w5 p (⟨2, l, dst, off, nn, data⟩ : Cal) (.slice A k c) (.slice none 0 0) 0)) := Lib.hid (bmod B5.out (setA_mod w5 p (⟨2, l, dst, off, nn, data⟩ : Cal) (.slice A k c) (.slice none 0 0) 0) (by have := Hp.out; omega))
  have GZ : Hid (IsG (setA w5 p (⟨2, l, dst, off, nn, data⟩ : Cal) (.slice A k c) (.slice none 0 0) 0) 1 encT A k X) := Lib.hid ((Gk.out).later (setA_mod w5 p (⟨2, l, dst, off, nn, data⟩ : Cal) (.slice A k c) (.slice none 0 0) 0) (fun g off e _ e2 => by have h1 := HNk.out g off e; have h2 : g = p := e2; have h3 := P3.out.lt; omega))
  go_wp2
  obtain ⟨wz, Hwz⟩ : ∃ u, Hid (setA w5 p (⟨2, l, dst, off, nn, data⟩ : Cal) (.slice A k c) (.slice none 0 0) 0 = u) := ⟨_, Lib.hid rfl⟩
  rw [Hwz.out] at PZ BZ GZ
  rw [show ((((((((w5.setCell ⟨p, 0, none⟩ (.int .i64 2)).setCell ⟨p, 1, none⟩ (.string (str l))).setCell ⟨p, 2, none⟩ (.string (str dst))).setCell ⟨p, 3, none⟩ (.int .i64 off)).setCell ⟨p, 4, none⟩ (.int .i64 nn)).setCell ⟨p, 5, none⟩ (.string (str data))).setCell ⟨p, 6, none⟩ (.slice A k c)).setCell ⟨p, 7, none⟩ (.slice none 0 0)).setCell ⟨p, 8, none⟩ (.int .i64 0) = wz from Hwz.out]
  have s0 := PZ.out.cell 0 rfl
  have s1 := PZ.out.cell 1 rfl
  have s2 := PZ.out.cell 2 rfl
  have s3 := PZ.out.cell 3 rfl
  have s4 := PZ.out.cell 4 rfl
  have s5 := PZ.out.cell 5 rfl
  have s6 := PZ.out.cell 6 rfl
  have s7 := PZ.out.cell 7 rfl
  have s8 := PZ.out.cell 8 rfl
  exact bodyPost_ret (v := .tuple #[askV (⟨2, l, dst, off, nn, data⟩ : Cal) (.slice A k c) (.slice none 0 0) 0, .bool true]) (by simp [results, Tryz.results22, go_sem, s0, s1, s2, s3, s4, s5, s6, s7, s8]) rfl ⟨A, k, c, rfl, HKk.out.1, HKk.out.2, GZ.out, (fun g off e => Nat.le_trans B3.out.size (HNk.out g off e)), BZ.out⟩
set_option maxRecDepth 100000 in
theorem right_3 (w : World) (dst0 pth0 : List UInt8) (off nn : Int) (data : List UInt8) : Calls Tryz.prog 23 #[calV ⟨3, pth0, dst0, off, nn, data⟩] w fun e w' => e = .returned (.bool true) ∧ Below w.heap.size w w' := by
  go_enter Tryz.func23, Tryz.ntmps23
  go_wp2
  go_ret
  exact ⟨rfl, (Below.refl _ _).alloc (Nat.le_refl _) _⟩
set_option maxRecDepth 100000 in
theorem many_3 (w : World) (dst0 pth0 : List UInt8) (off nn : Int) (data : List UInt8) : Calls Tryz.prog 24 #[calV ⟨3, pth0, dst0, off, nn, data⟩] w fun e w' => e = .returned (.bool false) ∧ Below w.heap.size w w' := by
  go_enter Tryz.func24, Tryz.ntmps24
  go_wp2
  go_ret
  exact ⟨rfl, (Below.refl _ _).alloc (Nat.le_refl _) _⟩
set_option maxRecDepth 100000 in
set_option maxHeartbeats 4000000 in
theorem paths_3 (X : List (List UInt8)) (hX : PathOk X) (hl : (pathOf X).length ≤ 1000000) (hle : 1 ≤ X.length) (Z : List (List UInt8)) (hZ : PathOk Z) (hlz : (pathOf Z).length ≤ 1000000) (hlez : 1 ≤ Z.length) (off nn : Int) (data : List UInt8) (w : World) (hm : Mx w) :
    Calls Tryz.prog 22 #[calV ⟨3, pathOf X, pathOf Z, off, nn, data⟩] w fun e w' => ∃ A k c B m d, e = .returned (.tuple #[askV ⟨3, pathOf X, pathOf Z, off, nn, data⟩ (.slice A k c) (.slice B m d) 0, .bool true]) ∧ k = X.length ∧ k ≤ c ∧ IsG w' 1 encT A k X ∧ (∀ g off, A = some ⟨g, off, none⟩ → w.heap.size ≤ g) ∧ m = Z.length ∧ m ≤ d ∧ IsG w' 1 encT B m Z ∧ (∀ g off, B = some ⟨g, off, none⟩ → w.heap.size ≤ g) ∧ Below w.heap.size w w' := by
  obtain ⟨l, Hl⟩ : ∃ r, Hid (pathOf X = r) := ⟨_, Lib.hid rfl⟩
  obtain ⟨l2, Hl2⟩ : ∃ r, Hid (pathOf Z = r) := ⟨_, Lib.hid rfl⟩
  rw [Hl.out, Hl2.out]
  go_enter Tryz.func22, Tryz.ntmps22
  go_upto_region 2 with (fail)
  obtain ⟨w1, Hw1⟩ : ∃ u, Hid (w.alloc (.cells #[.int .i64 3, .string (str l), .string (str l2), .int .i64 off, .int .i64 nn, .string (str data)] 32) = u) := ⟨_, Lib.hid rfl⟩
  obtain ⟨w2, Hw2⟩ : ∃ u, Hid (w1.alloc (.cells ask0 49) = u) := ⟨_, Lib.hid rfl⟩
  obtain ⟨w3, Hw3⟩ : ∃ u, Hid (w2.alloc (.cells #[.int .i64 3, .string (str l), .string (str l2), .int .i64 off, .int .i64 nn, .string (str data), .slice none 0 0, .slice none 0 0, .int .i64 0] 49) = u) := ⟨_, Lib.hid rfl⟩
  obtain ⟨q, Hq⟩ : ∃ u, Hid (w.heap.size = u) := ⟨_, Lib.hid rfl⟩
  obtain ⟨p, Hp⟩ : ∃ u, Hid (w.heap.size + 1 = u) := ⟨_, Lib.hid rfl⟩
  obtain ⟨r, Hr⟩ : ∃ u, Hid (w.heap.size + 1 + 1 = u) := ⟨_, Lib.hid rfl⟩
  have e1 : w1.heap.size = p := by rw [← Hw1.out, ← Hp.out]; simp
  have e2 : w2.heap.size = r := by rw [← Hw2.out, ← Hr.out, Hp.out, ← e1]; simp
  have b1 : Below w.heap.size w w1 := by rw [← Hw1.out]; exact balloc (Below.refl _ _) _
  have b2 : Below w1.heap.size w1 w2 := by rw [← Hw2.out]; exact balloc (Below.refl _ _) _
  have b3 : Below w2.heap.size w2 w3 := by rw [← Hw3.out]; exact balloc (Below.refl _ _) _
  have Q3 : Hid (BoxC w3 q #[.int .i64 3, .string (str l), .string (str l2), .int .i64 off, .int .i64 nn, .string (str data)] 32) := Lib.hid (by
    have h : BoxC w1 q #[.int .i64 3, .string (str l), .string (str l2), .int .i64 off, .int .i64 nn, .string (str data)] 32 := by rw [← Hw1.out, ← Hq.out]; exact BoxC.new w _ _
    exact (h.below b2).below b3)
  have P3 : Hid (BoxC w3 p ask0 49) := Lib.hid (by
    have h : BoxC w2 p ask0 49 := by rw [← Hw2.out, ← e1]; exact BoxC.new w1 _ _
    exact h.below b3)
  have R3 : Hid (BoxC w3 r #[.int .i64 3, .string (str l), .string (str l2), .int .i64 off, .int .i64 nn, .string (str data), .slice none 0 0, .slice none 0 0, .int .i64 0] 49) := Lib.hid (by rw [← Hw3.out, ← e2]; exact BoxC.new w2 _ _)
  have B3 : Hid (Below w.heap.size w w3) := Lib.hid (bnext (bnext b1 b2) b3)
  have hpr : p ≠ r := by have := Hp.out; have := Hr.out; omega
  have hqr : q ≠ r := by have := Hq.out; have := Hr.out; omega
  clear b1 b2 b3 e1 e2
  rw [Hw1.out, Hw2.out, Hw3.out, Hr.out, Hp.out, Hq.out]
  have hln : True := trivial
  have c0 := Q3.out.cell 0 rfl
  have c1 := Q3.out.cell 1 rfl
  have c2 := Q3.out.cell 2 rfl
  go_wp2_with fail
  rw [show str l = str (pathOf X) by rw [Hl.out]]
  refine (names_any X hX hl 1 hle w3 (hm.below B3.out)).mono ?_
  rintro e w4 ⟨A, k, c, rfl, hkX, hkc, hnw, hG, hb⟩
  have B4 := Lib.hid (bnext B3.out hb)
  have Q4 := Lib.hid (Q3.out.below hb)
  have P4 := Lib.hid (P3.out.below hb)
  have R4 := Lib.hid (R3.out.below hb)
  have HGk := Lib.hid hG
  have HKk := Lib.hid (And.intro hkX hkc)
  have hwlt := R3.out.lt
  have HNk := Lib.hid hnw
  clear hb hG hkX hkc hnw
  have rc := R4.out.cell 6 rfl
  have rf := R4.out.free 6
  go_upto_region 9 with (fail)
  clear rc rf
  obtain ⟨w5, Hw5⟩ : ∃ u, Hid (w4.setCell ⟨r, 6, none⟩ (.slice A k c) = u) := ⟨_, Lib.hid rfl⟩
  have M5 : Hid (Mod (· = r) w4 w5) := Lib.hid (by rw [← Hw5.out]; exact (Mod.refl _ w4).set1 _)
  have R5 := Lib.hid (R4.out.put 6 (.slice A k c))
  rw [Hw5.out] at R5
  have P5 := Lib.hid (P4.out.kept M5.out hpr)
  have Q5 := Lib.hid (Q4.out.kept M5.out hqr)
  have B5 : Hid (Below w.heap.size w w5) := Lib.hid (bmod B4.out M5.out (by have := Hr.out; omega))
  have Gk : Hid (IsG w5 1 encT A k X) := Lib.hid (HGk.out.later M5.out (fun g off e _ e2 => by have h1 := HNk.out g off e; have h2 : g = r := e2; omega))
  rw [Hw5.out]
  have c2 := Q5.out.cell 2 rfl
  go_wp2_with fail
  rw [show str l2 = str (pathOf Z) by rw [Hl2.out]]
  refine (names_any Z hZ hlz 1 hlez w5 (hm.below B5.out)).mono ?_
  rintro e w6 ⟨B, m, d, rfl, hkX, hkc, hnw, hG, hb⟩
  have hb67 := Lib.hid hb
  have B6 := Lib.hid (bnext B5.out hb)
  have Q6 := Lib.hid (Q5.out.below hb)
  have P6 := Lib.hid (P5.out.below hb)
  have R6 := Lib.hid (R5.out.below hb)
  have HGm := Lib.hid hG
  have HKm := Lib.hid (And.intro hkX hkc)
  have hwlt := R5.out.lt
  have HNm := Lib.hid hnw
  clear hb hG hkX hkc hnw
  have rc := R6.out.cell 7 rfl
  have rf := R6.out.free 7
  go_upto_region 14 with (fail)
  clear rc rf
  obtain ⟨w7, Hw7⟩ : ∃ u, Hid (w6.setCell ⟨r, 7, none⟩ (.slice B m d) = u) := ⟨_, Lib.hid rfl⟩
  have M7 : Hid (Mod (· = r) w6 w7) := Lib.hid (by rw [← Hw7.out]; exact (Mod.refl _ w6).set1 _)
  have R7 := Lib.hid (R6.out.put 7 (.slice B m d))
  rw [Hw7.out] at R7
  have P7 := Lib.hid (P6.out.kept M7.out hpr)
  have Q7 := Lib.hid (Q6.out.kept M7.out hqr)
  have B7 : Hid (Below w.heap.size w w7) := Lib.hid (bmod B6.out M7.out (by have := Hr.out; omega))
  have Gk7 : Hid (IsG w7 1 encT A k X) := Lib.hid ((Gk.out.below hb67.out).later M7.out (fun g off e _ e2 => by have h1 := HNk.out g off e; have h2 : g = r := e2; have h3 := R3.out.lt; omega))
  have Gm : Hid (IsG w7 1 encT B m Z) := Lib.hid (HGm.out.later M7.out (fun g off e _ e2 => by have h1 := HNm.out g off e; have h2 : g = r := e2; omega))
  rw [Hw7.out]
  have z0 := P7.out.cell 0 rfl
  have f0 := P7.out.free 0
  have z1 := P7.out.cell 1 rfl
  have f1 := P7.out.free 1
  have z2 := P7.out.cell 2 rfl
  have f2 := P7.out.free 2
  have z3 := P7.out.cell 3 rfl
  have f3 := P7.out.free 3
  have z4 := P7.out.cell 4 rfl
  have f4 := P7.out.free 4
  have z5 := P7.out.cell 5 rfl
  have f5 := P7.out.free 5
  have z6 := P7.out.cell 6 rfl
  have f6 := P7.out.free 6
  have z7 := P7.out.cell 7 rfl
  have f7 := P7.out.free 7
  have z8 := P7.out.cell 8 rfl
  have f8 := P7.out.free 8
  have v0 := R7.out.cell 0 rfl
  have v1 := R7.out.cell 1 rfl
  have v2 := R7.out.cell 2 rfl
  have v3 := R7.out.cell 3 rfl
  have v4 := R7.out.cell 4 rfl
  have v5 := R7.out.cell 5 rfl
  have v6 := R7.out.cell 6 rfl
  have v7 := R7.out.cell 7 rfl
  have v8 := R7.out.cell 8 rfl
  have PZ := Lib.hid (setA_box P7.out (⟨3, l, l2, off, nn, data⟩ : Cal) (.slice A k c) (.slice B m d) 0)
  have BZ : Hid (Below w.heap.size w (setA w7 p (⟨3, l, l2, off, nn, data⟩ : Cal) (.slice A k c) (.slice B m d) 0)) := Lib.hid (bmod B7.out (setA_mod w7 p (⟨3, l, l2, off, nn, data⟩ : Cal) (.slice A k c) (.slice B m d) 0) (by have := Hp.out; omega))
  have GZ : Hid (IsG (setA w7 p (⟨3, l, l2, off, nn, data⟩ : Cal) (.slice A k c) (.slice B m d) 0) 1 encT A k X) := Lib.hid ((Gk7.out).later (setA_mod w7 p (⟨3, l, l2, off, nn, data⟩ : Cal) (.slice A k c) (.slice B m d) 0) (fun g off e _ e2 => by have h1 := HNk.out g off e; have h2 : g = p := e2; have h3 := P3.out.lt; omega))
  have GY : Hid (IsG (setA w7 p (⟨3, l, l2, off, nn, data⟩ : Cal) (.slice A k c) (.slice B m d) 0) 1 encT B m Z) := Lib.hid (Gm.out.later (setA_mod w7 p (⟨3, l, l2, off, nn, data⟩ : Cal) (.slice A k c) (.slice B m d) 0) (fun g off e _ e2 => by have h1 := HNm.out g off e; have h2 : g = p := e2; have h3 := P5.out.lt; omega))
  go_wp2
  obtain ⟨wz, Hwz⟩ : ∃ u, Hid (setA w7 p (⟨3, l, l2, off, nn, data⟩ : Cal) (.slice A k c) (.slice B m d) 0 = u) := ⟨_, Lib.hid rfl⟩
  rw [Hwz.out] at PZ BZ GZ GY
  rw [show ((((((((w7.setCell ⟨p, 0, none⟩ (.int .i64 3)).setCell ⟨p, 1, none⟩ (.string (str l))).setCell ⟨p, 2, none⟩ (.string (str l2))).setCell ⟨p, 3, none⟩ (.int .i64 off)).setCell ⟨p, 4, none⟩ (.int .i64 nn)).setCell ⟨p, 5, none⟩ (.string (str data))).setCell ⟨p, 6, none⟩ (.slice A k c)).setCell ⟨p, 7, none⟩ (.slice B m d)).setCell ⟨p, 8, none⟩ (.int .i64 0) = wz from Hwz.out]
  have s0 := PZ.out.cell 0 rfl
  have s1 := PZ.out.cell 1 rfl
  have s2 := PZ.out.cell 2 rfl
  have s3 := PZ.out.cell 3 rfl
  have s4 := PZ.out.cell 4 rfl
  have s5 := PZ.out.cell 5 rfl
  have s6 := PZ.out.cell 6 rfl
  have s7 := PZ.out.cell 7 rfl
  have s8 := PZ.out.cell 8 rfl
  exact bodyPost_ret (v := .tuple #[askV (⟨3, l, l2, off, nn, data⟩ : Cal) (.slice A k c) (.slice B m d) 0, .bool true]) (by simp [results, Tryz.results22, go_sem, s0, s1, s2, s3, s4, s5, s6, s7, s8]) rfl ⟨A, k, c, B, m, d, rfl, HKk.out.1, HKk.out.2, GZ.out, (fun g off e => Nat.le_trans B3.out.size (HNk.out g off e)), HKm.out.1, HKm.out.2, GY.out, (fun g off e => Nat.le_trans B5.out.size (HNm.out g off e)), BZ.out⟩
set_option maxRecDepth 100000 in
theorem right_4 (w : World) (dst0 pth0 : List UInt8) (off nn : Int) (data : List UInt8) : Calls Tryz.prog 23 #[calV ⟨4, pth0, dst0, off, nn, data⟩] w fun e w' => e = .returned (.bool true) ∧ Below w.heap.size w w' := by
  go_enter Tryz.func23, Tryz.ntmps23
  go_wp2
  go_ret
  exact ⟨rfl, (Below.refl _ _).alloc (Nat.le_refl _) _⟩
set_option maxRecDepth 100000 in
theorem many_4 (w : World) (dst0 pth0 : List UInt8) (off nn : Int) (data : List UInt8) : Calls Tryz.prog 24 #[calV ⟨4, pth0, dst0, off, nn, data⟩] w fun e w' => e = .returned (.bool false) ∧ Below w.heap.size w w' := by
  go_enter Tryz.func24, Tryz.ntmps24
  go_wp2
  go_ret
  exact ⟨rfl, (Below.refl _ _).alloc (Nat.le_refl _) _⟩
set_option maxRecDepth 100000 in
set_option maxHeartbeats 4000000 in
theorem paths_4 (X : List (List UInt8)) (hX : PathOk X) (hl : (pathOf X).length ≤ 1000000) (hle : 1 ≤ X.length) (off nn : Int) (data : List UInt8) (dst : List UInt8) (w : World) (hm : Mx w) :
    Calls Tryz.prog 22 #[calV ⟨4, pathOf X, dst, off, nn, data⟩] w fun e w' => ∃ A k c, e = .returned (.tuple #[askV ⟨4, pathOf X, dst, off, nn, data⟩ (.slice A k c) (.slice none 0 0) 0, .bool true]) ∧ k = X.length ∧ k ≤ c ∧ IsG w' 1 encT A k X ∧ (∀ g off, A = some ⟨g, off, none⟩ → w.heap.size ≤ g) ∧ Below w.heap.size w w' := by
  obtain ⟨l, Hl⟩ : ∃ r, Hid (pathOf X = r) := ⟨_, Lib.hid rfl⟩
  rw [Hl.out]
  go_enter Tryz.func22, Tryz.ntmps22
  go_upto_region 2 with (fail)
  obtain ⟨w1, Hw1⟩ : ∃ u, Hid (w.alloc (.cells #[.int .i64 4, .string (str l), .string (str dst), .int .i64 off, .int .i64 nn, .string (str data)] 32) = u) := ⟨_, Lib.hid rfl⟩
  obtain ⟨w2, Hw2⟩ : ∃ u, Hid (w1.alloc (.cells ask0 49) = u) := ⟨_, Lib.hid rfl⟩
  obtain ⟨w3, Hw3⟩ : ∃ u, Hid (w2.alloc (.cells #[.int .i64 4, .string (str l), .string (str dst), .int .i64 off, .int .i64 nn, .string (str data), .slice none 0 0, .slice none 0 0, .int .i64 0] 49) = u) := ⟨_, Lib.hid rfl⟩
  obtain ⟨q, Hq⟩ : ∃ u, Hid (w.heap.size = u) := ⟨_, Lib.hid rfl⟩
  obtain ⟨p, Hp⟩ : ∃ u, Hid (w.heap.size + 1 = u) := ⟨_, Lib.hid rfl⟩
  obtain ⟨r, Hr⟩ : ∃ u, Hid (w.heap.size + 1 + 1 = u) := ⟨_, Lib.hid rfl⟩
  have e1 : w1.heap.size = p := by rw [← Hw1.out, ← Hp.out]; simp
  have e2 : w2.heap.size = r := by rw [← Hw2.out, ← Hr.out, Hp.out, ← e1]; simp
  have b1 : Below w.heap.size w w1 := by rw [← Hw1.out]; exact balloc (Below.refl _ _) _
  have b2 : Below w1.heap.size w1 w2 := by rw [← Hw2.out]; exact balloc (Below.refl _ _) _
  have b3 : Below w2.heap.size w2 w3 := by rw [← Hw3.out]; exact balloc (Below.refl _ _) _
  have Q3 : Hid (BoxC w3 q #[.int .i64 4, .string (str l), .string (str dst), .int .i64 off, .int .i64 nn, .string (str data)] 32) := Lib.hid (by
    have h : BoxC w1 q #[.int .i64 4, .string (str l), .string (str dst), .int .i64 off, .int .i64 nn, .string (str data)] 32 := by rw [← Hw1.out, ← Hq.out]; exact BoxC.new w _ _
    exact (h.below b2).below b3)
  have P3 : Hid (BoxC w3 p ask0 49) := Lib.hid (by
    have h : BoxC w2 p ask0 49 := by rw [← Hw2.out, ← e1]; exact BoxC.new w1 _ _
    exact h.below b3)
  have R3 : Hid (BoxC w3 r #[.int .i64 4, .string (str l), .string (str dst), .int .i64 off, .int .i64 nn, .string (str data), .slice none 0 0, .slice none 0 0, .int .i64 0] 49) := Lib.hid (by rw [← Hw3.out, ← e2]; exact BoxC.new w2 _ _)
  have B3 : Hid (Below w.heap.size w w3) := Lib.hid (bnext (bnext b1 b2) b3)
  have hpr : p ≠ r := by have := Hp.out; have := Hr.out; omega
  have hqr : q ≠ r := by have := Hq.out; have := Hr.out; omega
  clear b1 b2 b3 e1 e2
  rw [Hw1.out, Hw2.out, Hw3.out, Hr.out, Hp.out, Hq.out]
  have hln : True := trivial
  have c0 := Q3.out.cell 0 rfl
  have c1 := Q3.out.cell 1 rfl
  have c2 := Q3.out.cell 2 rfl
  go_wp2_with fail
  rw [show str l = str (pathOf X) by rw [Hl.out]]
  refine (names_any X hX hl 1 hle w3 (hm.below B3.out)).mono ?_
  rintro e w4 ⟨A, k, c, rfl, hkX, hkc, hnw, hG, hb⟩
  have B4 := Lib.hid (bnext B3.out hb)
  have Q4 := Lib.hid (Q3.out.below hb)
  have P4 := Lib.hid (P3.out.below hb)
  have R4 := Lib.hid (R3.out.below hb)
  have HGk := Lib.hid hG
  have HKk := Lib.hid (And.intro hkX hkc)
  have hwlt := R3.out.lt
  have HNk := Lib.hid hnw
  clear hb hG hkX hkc hnw
  have rc := R4.out.cell 6 rfl
  have rf := R4.out.free 6
  go_upto_region 14 with (fail)
  clear rc rf
  obtain ⟨w5, Hw5⟩ : ∃ u, Hid (w4.setCell ⟨r, 6, none⟩ (.slice A k c) = u) := ⟨_, Lib.hid rfl⟩
  have M5 : Hid (Mod (· = r) w4 w5) := Lib.hid (by rw [← Hw5.out]; exact (Mod.refl _ w4).set1 _)
  have R5 := Lib.hid (R4.out.put 6 (.slice A k c))
  rw [Hw5.out] at R5
  have P5 := Lib.hid (P4.out.kept M5.out hpr)
  have Q5 := Lib.hid (Q4.out.kept M5.out hqr)
  have B5 : Hid (Below w.heap.size w w5) := Lib.hid (bmod B4.out M5.out (by have := Hr.out; omega))
  have Gk : Hid (IsG w5 1 encT A k X) := Lib.hid (HGk.out.later M5.out (fun g off e _ e2 => by have h1 := HNk.out g off e; have h2 : g = r := e2; omega))
  rw [Hw5.out]
  have z0 := P5.out.cell 0 rfl
  have f0 := P5.out.free 0
  have z1 := P5.out.cell 1 rfl
  have f1 := P5.out.free 1
  have z2 := P5.out.cell 2 rfl
  have f2 := P5.out.free 2
  have z3 := P5.out.cell 3 rfl
  have f3 := P5.out.free 3
  have z4 := P5.out.cell 4 rfl
  have f4 := P5.out.free 4
  have z5 := P5.out.cell 5 rfl
  have f5 := P5.out.free 5
  have z6 := P5.out.cell 6 rfl
  have f6 := P5.out.free 6
  have z7 := P5.out.cell 7 rfl
  have f7 := P5.out.free 7
  have z8 := P5.out.cell 8 rfl
  have f8 := P5.out.free 8
  have v0 := R5.out.cell 0 rfl
  have v1 := R5.out.cell 1 rfl
  have v2 := R5.out.cell 2 rfl
  have v3 := R5.out.cell 3 rfl
  have v4 := R5.out.cell 4 rfl
  have v5 := R5.out.cell 5 rfl
  have v6 := R5.out.cell 6 rfl
  have v7 := R5.out.cell 7 rfl
  have v8 := R5.out.cell 8 rfl
  have PZ := Lib.hid (setA_box P5.out (⟨4, l, dst, off, nn, data⟩ : Cal) (.slice A k c) (.slice none 0 0) 0)
  have BZ : Hid (Below w.heap.size w (setA w5 p (⟨4, l, dst, off, nn, data⟩ : Cal) (.slice A k c) (.slice none 0 0) 0)) := Lib.hid (bmod B5.out (setA_mod w5 p (⟨4, l, dst, off, nn, data⟩ : Cal) (.slice A k c) (.slice none 0 0) 0) (by have := Hp.out; omega))
  have GZ : Hid (IsG (setA w5 p (⟨4, l, dst, off, nn, data⟩ : Cal) (.slice A k c) (.slice none 0 0) 0) 1 encT A k X) := Lib.hid ((Gk.out).later (setA_mod w5 p (⟨4, l, dst, off, nn, data⟩ : Cal) (.slice A k c) (.slice none 0 0) 0) (fun g off e _ e2 => by have h1 := HNk.out g off e; have h2 : g = p := e2; have h3 := P3.out.lt; omega))
  go_wp2
  obtain ⟨wz, Hwz⟩ : ∃ u, Hid (setA w5 p (⟨4, l, dst, off, nn, data⟩ : Cal) (.slice A k c) (.slice none 0 0) 0 = u) := ⟨_, Lib.hid rfl⟩
  rw [Hwz.out] at PZ BZ GZ
  rw [show ((((((((w5.setCell ⟨p, 0, none⟩ (.int .i64 4)).setCell ⟨p, 1, none⟩ (.string (str l))).setCell ⟨p, 2, none⟩ (.string (str dst))).setCell ⟨p, 3, none⟩ (.int .i64 off)).setCell ⟨p, 4, none⟩ (.int .i64 nn)).setCell ⟨p, 5, none⟩ (.string (str data))).setCell ⟨p, 6, none⟩ (.slice A k c)).setCell ⟨p, 7, none⟩ (.slice none 0 0)).setCell ⟨p, 8, none⟩ (.int .i64 0) = wz from Hwz.out]
  have s0 := PZ.out.cell 0 rfl
  have s1 := PZ.out.cell 1 rfl
  have s2 := PZ.out.cell 2 rfl
  have s3 := PZ.out.cell 3 rfl
  have s4 := PZ.out.cell 4 rfl
  have s5 := PZ.out.cell 5 rfl
  have s6 := PZ.out.cell 6 rfl
  have s7 := PZ.out.cell 7 rfl
  have s8 := PZ.out.cell 8 rfl
  exact bodyPost_ret (v := .tuple #[askV (⟨4, l, dst, off, nn, data⟩ : Cal) (.slice A k c) (.slice none 0 0) 0, .bool true]) (by simp [results, Tryz.results22, go_sem, s0, s1, s2, s3, s4, s5, s6, s7, s8]) rfl ⟨A, k, c, rfl, HKk.out.1, HKk.out.2, GZ.out, (fun g off e => Nat.le_trans B3.out.size (HNk.out g off e)), BZ.out⟩
set_option maxRecDepth 100000 in
theorem right_5 (w : World) (dst0 pth0 : List UInt8) (off nn : Int) (data : List UInt8) : Calls Tryz.prog 23 #[calV ⟨5, pth0, dst0, off, nn, data⟩] w fun e w' => e = .returned (.bool true) ∧ Below w.heap.size w w' := by
  go_enter Tryz.func23, Tryz.ntmps23
  go_wp2
  go_ret
  exact ⟨rfl, (Below.refl _ _).alloc (Nat.le_refl _) _⟩
set_option maxRecDepth 100000 in
theorem many_5 (w : World) (dst0 pth0 : List UInt8) (off nn : Int) (data : List UInt8) : Calls Tryz.prog 24 #[calV ⟨5, pth0, dst0, off, nn, data⟩] w fun e w' => e = .returned (.bool false) ∧ Below w.heap.size w w' := by
  go_enter Tryz.func24, Tryz.ntmps24
  go_wp2
  go_ret
  exact ⟨rfl, (Below.refl _ _).alloc (Nat.le_refl _) _⟩
set_option maxRecDepth 100000 in
set_option maxHeartbeats 4000000 in
theorem paths_5 (X : List (List UInt8)) (hX : PathOk X) (hl : (pathOf X).length ≤ 1000000) (hle : 1 ≤ X.length) (Z : List (List UInt8)) (hZ : PathOk Z) (hlz : (pathOf Z).length ≤ 1000000) (hlez : 1 ≤ Z.length) (off nn : Int) (data : List UInt8) (w : World) (hm : Mx w) :
    Calls Tryz.prog 22 #[calV ⟨5, pathOf X, pathOf Z, off, nn, data⟩] w fun e w' => ∃ A k c B m d, e = .returned (.tuple #[askV ⟨5, pathOf X, pathOf Z, off, nn, data⟩ (.slice A k c) (.slice B m d) 0, .bool true]) ∧ k = X.length ∧ k ≤ c ∧ IsG w' 1 encT A k X ∧ (∀ g off, A = some ⟨g, off, none⟩ → w.heap.size ≤ g) ∧ m = Z.length ∧ m ≤ d ∧ IsG w' 1 encT B m Z ∧ (∀ g off, B = some ⟨g, off, none⟩ → w.heap.size ≤ g) ∧ Below w.heap.size w w' := by
  obtain ⟨l, Hl⟩ : ∃ r, Hid (pathOf X = r) := ⟨_, Lib.hid rfl⟩
  obtain ⟨l2, Hl2⟩ : ∃ r, Hid (pathOf Z = r) := ⟨_, Lib.hid rfl⟩
  rw [Hl.out, Hl2.out]
  go_enter Tryz.func22, Tryz.ntmps22
  go_upto_region 2 with (fail)
  obtain ⟨w1, Hw1⟩ : ∃ u, Hid (w.alloc (.cells #[.int .i64 5, .string (str l), .string (str l2), .int .i64 off, .int .i64 nn, .string (str data)] 32) = u) := ⟨_, Lib.hid rfl⟩
  obtain ⟨w2, Hw2⟩ : ∃ u, Hid (w1.alloc (.cells ask0 49) = u) := ⟨_, Lib.hid rfl⟩
  obtain ⟨w3, Hw3⟩ : ∃ u, Hid (w2.alloc (.cells #[.int .i64 5, .string (str l), .string (str l2), .int .i64 off, .int .i64 nn, .string (str data), .slice none 0 0, .slice none 0 0, .int .i64 0] 49) = u) := ⟨_, Lib.hid rfl⟩
  obtain ⟨q, Hq⟩ : ∃ u, Hid (w.heap.size = u) := ⟨_, Lib.hid rfl⟩
  obtain ⟨p, Hp⟩ : ∃ u, Hid (w.heap.size + 1 = u) := ⟨_, Lib.hid rfl⟩
  obtain ⟨r, Hr⟩ : ∃ u, Hid (w.heap.size + 1 + 1 = u) := ⟨_, Lib.hid rfl⟩
  have e1 : w1.heap.size = p := by rw [← Hw1.out, ← Hp.out]; simp
  have e2 : w2.heap.size = r := by rw [← Hw2.out, ← Hr.out, Hp.out, ← e1]; simp
  have b1 : Below w.heap.size w w1 := by rw [← Hw1.out]; exact balloc (Below.refl _ _) _
  have b2 : Below w1.heap.size w1 w2 := by rw [← Hw2.out]; exact balloc (Below.refl _ _) _
  have b3 : Below w2.heap.size w2 w3 := by rw [← Hw3.out]; exact balloc (Below.refl _ _) _
  have Q3 : Hid (BoxC w3 q #[.int .i64 5, .string (str l), .string (str l2), .int .i64 off, .int .i64 nn, .string (str data)] 32) := Lib.hid (by
    have h : BoxC w1 q #[.int .i64 5, .string (str l), .string (str l2), .int .i64 off, .int .i64 nn, .string (str data)] 32 := by rw [← Hw1.out, ← Hq.out]; exact BoxC.new w _ _
    exact (h.below b2).below b3)
  have P3 : Hid (BoxC w3 p ask0 49) := Lib.hid (by
    have h : BoxC w2 p ask0 49 := by rw [← Hw2.out, ← e1]; exact BoxC.new w1 _ _
    exact h.below b3)
  have R3 : Hid (BoxC w3 r #[.int .i64 5, .string (str l), .string (str l2), .int .i64 off, .int .i64 nn, .string (str data), .slice none 0 0, .slice none 0 0, .int .i64 0] 49) := Lib.hid (by rw [← Hw3.out, ← e2]; exact BoxC.new w2 _ _)
  have B3 : Hid (Below w.heap.size w w3) := Lib.hid (bnext (bnext b1 b2) b3)
  have hpr : p ≠ r := by have := Hp.out; have := Hr.out; omega
  have hqr : q ≠ r := by have := Hq.out; have := Hr.out; omega
  clear b1 b2 b3 e1 e2
  rw [Hw1.out, Hw2.out, Hw3.out, Hr.out, Hp.out, Hq.out]
  have hln : True := trivial
  have c0 := Q3.out.cell 0 rfl
  have c1 := Q3.out.cell 1 rfl
  have c2 := Q3.out.cell 2 rfl
  go_wp2_with fail
  rw [show str l = str (pathOf X) by rw [Hl.out]]
  refine (names_any X hX hl 1 hle w3 (hm.below B3.out)).mono ?_
  rintro e w4 ⟨A, k, c, rfl, hkX, hkc, hnw, hG, hb⟩
  have B4 := Lib.hid (bnext B3.out hb)
  have Q4 := Lib.hid (Q3.out.below hb)
  have P4 := Lib.hid (P3.out.below hb)
  have R4 := Lib.hid (R3.out.below hb)
  have HGk := Lib.hid hG
  have HKk := Lib.hid (And.intro hkX hkc)
  have hwlt := R3.out.lt
  have HNk := Lib.hid hnw
  clear hb hG hkX hkc hnw
  have rc := R4.out.cell 6 rfl
  have rf := R4.out.free 6
  go_upto_region 9 with (fail)
  clear rc rf
  obtain ⟨w5, Hw5⟩ : ∃ u, Hid (w4.setCell ⟨r, 6, none⟩ (.slice A k c) = u) := ⟨_, Lib.hid rfl⟩
  have M5 : Hid (Mod (· = r) w4 w5) := Lib.hid (by rw [← Hw5.out]; exact (Mod.refl _ w4).set1 _)
  have R5 := Lib.hid (R4.out.put 6 (.slice A k c))
  rw [Hw5.out] at R5
  have P5 := Lib.hid (P4.out.kept M5.out hpr)
  have Q5 := Lib.hid (Q4.out.kept M5.out hqr)
  have B5 : Hid (Below w.heap.size w w5) := Lib.hid (bmod B4.out M5.out (by have := Hr.out; omega))
  have Gk : Hid (IsG w5 1 encT A k X) := Lib.hid (HGk.out.later M5.out (fun g off e _ e2 => by have h1 := HNk.out g off e; have h2 : g = r := e2; omega))
  rw [Hw5.out]
  have c2 := Q5.out.cell 2 rfl
  go_wp2_with fail
  rw [show str l2 = str (pathOf Z) by rw [Hl2.out]]
  refine (names_any Z hZ hlz 1 hlez w5 (hm.below B5.out)).mono ?_
  rintro e w6 ⟨B, m, d, rfl, hkX, hkc, hnw, hG, hb⟩
  have hb67 := Lib.hid hb
  have B6 := Lib.hid (bnext B5.out hb)
  have Q6 := Lib.hid (Q5.out.below hb)
  have P6 := Lib.hid (P5.out.below hb)
  have R6 := Lib.hid (R5.out.below hb)
  have HGm := Lib.hid hG
  have HKm := Lib.hid (And.intro hkX hkc)
  have hwlt := R5.out.lt
  have HNm := Lib.hid hnw
  clear hb hG hkX hkc hnw
  have rc := R6.out.cell 7 rfl
  have rf := R6.out.free 7
  go_upto_region 14 with (fail)
  clear rc rf
  obtain ⟨w7, Hw7⟩ : ∃ u, Hid (w6.setCell ⟨r, 7, none⟩ (.slice B m d) = u) := ⟨_, Lib.hid rfl⟩
  have M7 : Hid (Mod (· = r) w6 w7) := Lib.hid (by rw [← Hw7.out]; exact (Mod.refl _ w6).set1 _)
  have R7 := Lib.hid (R6.out.put 7 (.slice B m d))
  rw [Hw7.out] at R7
  have P7 := Lib.hid (P6.out.kept M7.out hpr)
  have Q7 := Lib.hid (Q6.out.kept M7.out hqr)
  have B7 : Hid (Below w.heap.size w w7) := Lib.hid (bmod B6.out M7.out (by have := Hr.out; omega))
  have Gk7 : Hid (IsG w7 1 encT A k X) := Lib.hid ((Gk.out.below hb67.out).later M7.out (fun g off e _ e2 => by have h1 := HNk.out g off e; have h2 : g = r := e2; have h3 := R3.out.lt; omega))
  have Gm : Hid (IsG w7 1 encT B m Z) := Lib.hid (HGm.out.later M7.out (fun g off e _ e2 => by have h1 := HNm.out g off e; have h2 : g = r := e2; omega))
  rw [Hw7.out]
  have z0 := P7.out.cell 0 rfl
  have f0 := P7.out.free 0
  have z1 := P7.out.cell 1 rfl
  have f1 := P7.out.free 1
  have z2 := P7.out.cell 2 rfl
  have f2 := P7.out.free 2
  have z3 := P7.out.cell 3 rfl
  have f3 := P7.out.free 3
  have z4 := P7.out.cell 4 rfl
  have f4 := P7.out.free 4
  have z5 := P7.out.cell 5 rfl
  have f5 := P7.out.free 5
  have z6 := P7.out.cell 6 rfl
  have f6 := P7.out.free 6
  have z7 := P7.out.cell 7 rfl
  have f7 := P7.out.free 7
  have z8 := P7.out.cell 8 rfl
  have f8 := P7.out.free 8
  have v0 := R7.out.cell 0 rfl
  have v1 := R7.out.cell 1 rfl
  have v2 := R7.out.cell 2 rfl
  have v3 := R7.out.cell 3 rfl
  have v4 := R7.out.cell 4 rfl
  have v5 := R7.out.cell 5 rfl
  have v6 := R7.out.cell 6 rfl
  have v7 := R7.out.cell 7 rfl
  have v8 := R7.out.cell 8 rfl
  have PZ := Lib.hid (setA_box P7.out (⟨5, l, l2, off, nn, data⟩ : Cal) (.slice A k c) (.slice B m d) 0)
  have BZ : Hid (Below w.heap.size w (setA w7 p (⟨5, l, l2, off, nn, data⟩ : Cal) (.slice A k c) (.slice B m d) 0)) := Lib.hid (bmod B7.out (setA_mod w7 p (⟨5, l, l2, off, nn, data⟩ : Cal) (.slice A k c) (.slice B m d) 0) (by have := Hp.out; omega))
  have GZ : Hid (IsG (setA w7 p (⟨5, l, l2, off, nn, data⟩ : Cal) (.slice A k c) (.slice B m d) 0) 1 encT A k X) := Lib.hid ((Gk7.out).later (setA_mod w7 p (⟨5, l, l2, off, nn, data⟩ : Cal) (.slice A k c) (.slice B m d) 0) (fun g off e _ e2 => by have h1 := HNk.out g off e; have h2 : g = p := e2; have h3 := P3.out.lt; omega))
  have GY : Hid (IsG (setA w7 p (⟨5, l, l2, off, nn, data⟩ : Cal) (.slice A k c) (.slice B m d) 0) 1 encT B m Z) := Lib.hid (Gm.out.later (setA_mod w7 p (⟨5, l, l2, off, nn, data⟩ : Cal) (.slice A k c) (.slice B m d) 0) (fun g off e _ e2 => by have h1 := HNm.out g off e; have h2 : g = p := e2; have h3 := P5.out.lt; omega))
  go_wp2
  obtain ⟨wz, Hwz⟩ : ∃ u, Hid (setA w7 p (⟨5, l, l2, off, nn, data⟩ : Cal) (.slice A k c) (.slice B m d) 0 = u) := ⟨_, Lib.hid rfl⟩
  rw [Hwz.out] at PZ BZ GZ GY
  rw [show ((((((((w7.setCell ⟨p, 0, none⟩ (.int .i64 5)).setCell ⟨p, 1, none⟩ (.string (str l))).setCell ⟨p, 2, none⟩ (.string (str l2))).setCell ⟨p, 3, none⟩ (.int .i64 off)).setCell ⟨p, 4, none⟩ (.int .i64 nn)).setCell ⟨p, 5, none⟩ (.string (str data))).setCell ⟨p, 6, none⟩ (.slice A k c)).setCell ⟨p, 7, none⟩ (.slice B m d)).setCell ⟨p, 8, none⟩ (.int .i64 0) = wz from Hwz.out]
  have s0 := PZ.out.cell 0 rfl
  have s1 := PZ.out.cell 1 rfl
  have s2 := PZ.out.cell 2 rfl
  have s3 := PZ.out.cell 3 rfl
  have s4 := PZ.out.cell 4 rfl
  have s5 := PZ.out.cell 5 rfl
  have s6 := PZ.out.cell 6 rfl
  have s7 := PZ.out.cell 7 rfl
  have s8 := PZ.out.cell 8 rfl
  exact bodyPost_ret (v := .tuple #[askV (⟨5, l, l2, off, nn, data⟩ : Cal) (.slice A k c) (.slice B m d) 0, .bool true]) (by simp [results, Tryz.results22, go_sem, s0, s1, s2, s3, s4, s5, s6, s7, s8]) rfl ⟨A, k, c, B, m, d, rfl, HKk.out.1, HKk.out.2, GZ.out, (fun g off e => Nat.le_trans B3.out.size (HNk.out g off e)), HKm.out.1, HKm.out.2, GY.out, (fun g off e => Nat.le_trans B5.out.size (HNm.out g off e)), BZ.out⟩
set_option maxRecDepth 100000 in
theorem right_6 (w : World) (dst0 pth0 : List UInt8) (off nn : Int) (data : List UInt8) (h0 : 0 ≤ off) (h1 : 0 ≤ nn) (h2 : nn ≤ 6144) : Calls Tryz.prog 23 #[calV ⟨6, pth0, dst0, off, nn, data⟩] w fun e w' => e = .returned (.bool true) ∧ Below w.heap.size w w' := by
  go_enter Tryz.func23, Tryz.ntmps23
  go_wp2
  go_ret
  exact ⟨rfl, (Below.refl _ _).alloc (Nat.le_refl _) _⟩
set_option maxRecDepth 100000 in
theorem many_6 (w : World) (dst0 pth0 : List UInt8) (off nn : Int) (data : List UInt8) (_h0 : 0 ≤ off) (_h1 : 0 ≤ nn) (_h2 : nn ≤ 6144) : Calls Tryz.prog 24 #[calV ⟨6, pth0, dst0, off, nn, data⟩] w fun e w' => e = .returned (.bool false) ∧ Below w.heap.size w w' := by
  go_enter Tryz.func24, Tryz.ntmps24
  go_wp2
  go_ret
  exact ⟨rfl, (Below.refl _ _).alloc (Nat.le_refl _) _⟩
set_option maxRecDepth 100000 in
set_option maxHeartbeats 4000000 in
theorem paths_6 (X : List (List UInt8)) (hX : PathOk X) (hl : (pathOf X).length ≤ 1000000) (hle : 0 ≤ X.length) (off nn : Int) (data : List UInt8) (dst : List UInt8) (w : World) (hm : Mx w) :
    Calls Tryz.prog 22 #[calV ⟨6, pathOf X, dst, off, nn, data⟩] w fun e w' => ∃ A k c, e = .returned (.tuple #[askV ⟨6, pathOf X, dst, off, nn, data⟩ (.slice A k c) (.slice none 0 0) 0, .bool true]) ∧ k = X.length ∧ k ≤ c ∧ IsG w' 1 encT A k X ∧ (∀ g off, A = some ⟨g, off, none⟩ → w.heap.size ≤ g) ∧ Below w.heap.size w w' := by
  obtain ⟨l, Hl⟩ : ∃ r, Hid (pathOf X = r) := ⟨_, Lib.hid rfl⟩
  rw [Hl.out]
  go_enter Tryz.func22, Tryz.ntmps22
  go_upto_region 2 with (fail)
  obtain ⟨w1, Hw1⟩ : ∃ u, Hid (w.alloc (.cells #[.int .i64 6, .string (str l), .string (str dst), .int .i64 off, .int .i64 nn, .string (str data)] 32) = u) := ⟨_, Lib.hid rfl⟩
  obtain ⟨w2, Hw2⟩ : ∃ u, Hid (w1.alloc (.cells ask0 49) = u) := ⟨_, Lib.hid rfl⟩
  obtain ⟨w3, Hw3⟩ : ∃ u, Hid (w2.alloc (.cells #[.int .i64 6, .string (str l), .string (str dst), .int .i64 off, .int .i64 nn, .string (str data), .slice none 0 0, .slice none 0 0, .int .i64 0] 49) = u) := ⟨_, Lib.hid rfl⟩
  obtain ⟨q, Hq⟩ : ∃ u, Hid (w.heap.size = u) := ⟨_, Lib.hid rfl⟩
  obtain ⟨p, Hp⟩ : ∃ u, Hid (w.heap.size + 1 = u) := ⟨_, Lib.hid rfl⟩
  obtain ⟨r, Hr⟩ : ∃ u, Hid (w.heap.size + 1 + 1 = u) := ⟨_, Lib.hid rfl⟩
  have e1 : w1.heap.size = p := by rw [← Hw1.out, ← Hp.out]; simp
  have e2 : w2.heap.size = r := by rw [← Hw2.out, ← Hr.out, Hp.out, ← e1]; simp
  have b1 : Below w.heap.size w w1 := by rw [← Hw1.out]; exact balloc (Below.refl _ _) _
  have b2 : Below w1.heap.size w1 w2 := by rw [← Hw2.out]; exact balloc (Below.refl _ _) _
  have b3 : Below w2.heap.size w2 w3 := by rw [← Hw3.out]; exact balloc (Below.refl _ _) _
  have Q3 : Hid (BoxC w3 q #[.int .i64 6, .string (str l), .string (str dst), .int .i64 off, .int .i64 nn, .string (str data)] 32) := Lib.hid (by
    have h : BoxC w1 q #[.int .i64 6, .string (str l), .string (str dst), .int .i64 off, .int .i64 nn, .string (str data)] 32 := by rw [← Hw1.out, ← Hq.out]; exact BoxC.new w _ _
    exact (h.below b2).below b3)
  have P3 : Hid (BoxC w3 p ask0 49) := Lib.hid (by
    have h : BoxC w2 p ask0 49 := by rw [← Hw2.out, ← e1]; exact BoxC.new w1 _ _
    exact h.below b3)
  have R3 : Hid (BoxC w3 r #[.int .i64 6, .string (str l), .string (str dst), .int .i64 off, .int .i64 nn, .string (str data), .slice none 0 0, .slice none 0 0, .int .i64 0] 49) := Lib.hid (by rw [← Hw3.out, ← e2]; exact BoxC.new w2 _ _)
  have B3 : Hid (Below w.heap.size w w3) := Lib.hid (bnext (bnext b1 b2) b3)
  have hpr : p ≠ r := by have := Hp.out; have := Hr.out; omega
  have hqr : q ≠ r := by have := Hq.out; have := Hr.out; omega
  clear b1 b2 b3 e1 e2
  rw [Hw1.out, Hw2.out, Hw3.out, Hr.out, Hp.out, Hq.out]
  have hln : True := trivial
  have c0 := Q3.out.cell 0 rfl
  have c1 := Q3.out.cell 1 rfl
  have c2 := Q3.out.cell 2 rfl
  go_wp2_with fail
  rw [show str l = str (pathOf X) by rw [Hl.out]]
  refine (names_any X hX hl 0 hle w3 (hm.below B3.out)).mono ?_
  rintro e w4 ⟨A, k, c, rfl, hkX, hkc, hnw, hG, hb⟩
  have B4 := Lib.hid (bnext B3.out hb)
  have Q4 := Lib.hid (Q3.out.below hb)
  have P4 := Lib.hid (P3.out.below hb)
  have R4 := Lib.hid (R3.out.below hb)
  have HGk := Lib.hid hG
  have HKk := Lib.hid (And.intro hkX hkc)
  have hwlt := R3.out.lt
  have HNk := Lib.hid hnw
  clear hb hG hkX hkc hnw
  have rc := R4.out.cell 6 rfl
  have rf := R4.out.free 6
  go_upto_region 14 with (fail)
  clear rc rf
  obtain ⟨w5, Hw5⟩ : ∃ u, Hid (w4.setCell ⟨r, 6, none⟩ (.slice A k c) = u) := ⟨_, Lib.hid rfl⟩
  have M5 : Hid (Mod (· = r) w4 w5) := Lib.hid (by rw [← Hw5.out]; exact (Mod.refl _ w4).set1 _)
  have R5 := Lib.hid (R4.out.put 6 (.slice A k c))
  rw [Hw5.out] at R5
  have P5 := Lib.hid (P4.out.kept M5.out hpr)
  have Q5 := Lib.hid (Q4.out.kept M5.out hqr)
  have B5 : Hid (Below w.heap.size w w5) := Lib.hid (bmod B4.out M5.out (by have := Hr.out; omega))
  have Gk : Hid (IsG w5 1 encT A k X) := Lib.hid (HGk.out.later M5.out (fun g off e _ e2 => by have h1 := HNk.out g off e; have h2 : g = r := e2; omega))
  rw [Hw5.out]
  have z0 := P5.out.cell 0 rfl
  have f0 := P5.out.free 0
  have z1 := P5.out.cell 1 rfl
  have f1 := P5.out.free 1
  have z2 := P5.out.cell 2 rfl
  have f2 := P5.out.free 2
  have z3 := P5.out.cell 3 rfl
  have f3 := P5.out.free 3
  have z4 := P5.out.cell 4 rfl
  have f4 := P5.out.free 4
  have z5 := P5.out.cell 5 rfl
  have f5 := P5.out.free 5
  have z6 := P5.out.cell 6 rfl
  have f6 := P5.out.free 6
  have z7 := P5.out.cell 7 rfl
  have f7 := P5.out.free 7
  have z8 := P5.out.cell 8 rfl
  have f8 := P5.out.free 8
  have v0 := R5.out.cell 0 rfl
  have v1 := R5.out.cell 1 rfl
  have v2 := R5.out.cell 2 rfl
  have v3 := R5.out.cell 3 rfl
  have v4 := R5.out.cell 4 rfl
  have v5 := R5.out.cell 5 rfl
  have v6 := R5.out.cell 6 rfl
  have v7 := R5.out.cell 7 rfl
  have v8 := R5.out.cell 8 rfl
  have PZ := Lib.hid (setA_box P5.out (⟨6, l, dst, off, nn, data⟩ : Cal) (.slice A k c) (.slice none 0 0) 0)
  have BZ : Hid (Below w.heap.size w (setA w5 p (⟨6, l, dst, off, nn, data⟩ : Cal) (.slice A k c) (.slice none 0 0) 0)) := Lib.hid (bmod B5.out (setA_mod w5 p (⟨6, l, dst, off, nn, data⟩ : Cal) (.slice A k c) (.slice none 0 0) 0) (by have := Hp.out; omega))
  have GZ : Hid (IsG (setA w5 p (⟨6, l, dst, off, nn, data⟩ : Cal) (.slice A k c) (.slice none 0 0) 0) 1 encT A k X) := Lib.hid ((Gk.out).later (setA_mod w5 p (⟨6, l, dst, off, nn, data⟩ : Cal) (.slice A k c) (.slice none 0 0) 0) (fun g off e _ e2 => by have h1 := HNk.out g off e; have h2 : g = p := e2; have h3 := P3.out.lt; omega))
  go_wp2
  obtain ⟨wz, Hwz⟩ : ∃ u, Hid (setA w5 p (⟨6, l, dst, off, nn, data⟩ : Cal) (.slice A k c) (.slice none 0 0) 0 = u) := ⟨_, Lib.hid rfl⟩
  rw [Hwz.out] at PZ BZ GZ
  rw [show ((((((((w5.setCell ⟨p, 0, none⟩ (.int .i64 6)).setCell ⟨p, 1, none⟩ (.string (str l))).setCell ⟨p, 2, none⟩ (.string (str dst))).setCell ⟨p, 3, none⟩ (.int .i64 off)).setCell ⟨p, 4, none⟩ (.int .i64 nn)).setCell ⟨p, 5, none⟩ (.string (str data))).setCell ⟨p, 6, none⟩ (.slice A k c)).setCell ⟨p, 7, none⟩ (.slice none 0 0)).setCell ⟨p, 8, none⟩ (.int .i64 0) = wz from Hwz.out]
  have s0 := PZ.out.cell 0 rfl
  have s1 := PZ.out.cell 1 rfl
  have s2 := PZ.out.cell 2 rfl
  have s3 := PZ.out.cell 3 rfl
  have s4 := PZ.out.cell 4 rfl
  have s5 := PZ.out.cell 5 rfl
  have s6 := PZ.out.cell 6 rfl
  have s7 := PZ.out.cell 7 rfl
  have s8 := PZ.out.cell 8 rfl
  exact bodyPost_ret (v := .tuple #[askV (⟨6, l, dst, off, nn, data⟩ : Cal) (.slice A k c) (.slice none 0 0) 0, .bool true]) (by simp [results, Tryz.results22, go_sem, s0, s1, s2, s3, s4, s5, s6, s7, s8]) rfl ⟨A, k, c, rfl, HKk.out.1, HKk.out.2, GZ.out, (fun g off e => Nat.le_trans B3.out.size (HNk.out g off e)), BZ.out⟩
set_option maxRecDepth 100000 in
theorem right_7 (w : World) (dst0 pth0 : List UInt8) (off nn : Int) (data : List UInt8) (h0 : 0 ≤ off) (_h1 : (data.length : Int) ≤ 6144 - off) : Calls Tryz.prog 23 #[calV ⟨7, pth0, dst0, off, nn, data⟩] w fun e w' => e = .returned (.bool true) ∧ Below w.heap.size w w' := by
  go_enter Tryz.func23, Tryz.ntmps23
  go_wp2
  go_ret
  exact ⟨rfl, (Below.refl _ _).alloc (Nat.le_refl _) _⟩
set_option maxRecDepth 100000 in
theorem many_7 (w : World) (dst0 pth0 : List UInt8) (off nn : Int) (data : List UInt8) (h0 : 0 ≤ off) (h1 : (data.length : Int) ≤ 6144 - off) : Calls Tryz.prog 24 #[calV ⟨7, pth0, dst0, off, nn, data⟩] w fun e w' => e = .returned (.bool false) ∧ Below w.heap.size w w' := by
  have hw : IntKind.i64.wrap (6144 - off) = 6144 - off := IntWalk.i64_in _ (by omega)
  have hlt : ¬ 6144 - off < (data.length : Int) := by omega
  go_enter Tryz.func24, Tryz.ntmps24
  go_wp2
  go_ret
  exact ⟨rfl, (Below.refl _ _).alloc (Nat.le_refl _) _⟩
set_option maxRecDepth 100000 in
set_option maxHeartbeats 4000000 in
theorem paths_7 (X : List (List UInt8)) (hX : PathOk X) (hl : (pathOf X).length ≤ 1000000) (hle : 0 ≤ X.length) (off nn : Int) (data : List UInt8) (dst : List UInt8) (w : World) (hm : Mx w) :
    Calls Tryz.prog 22 #[calV ⟨7, pathOf X, dst, off, nn, data⟩] w fun e w' => ∃ A k c, e = .returned (.tuple #[askV ⟨7, pathOf X, dst, off, nn, data⟩ (.slice A k c) (.slice none 0 0) 0, .bool true]) ∧ k = X.length ∧ k ≤ c ∧ IsG w' 1 encT A k X ∧ (∀ g off, A = some ⟨g, off, none⟩ → w.heap.size ≤ g) ∧ Below w.heap.size w w' := by
  obtain ⟨l, Hl⟩ : ∃ r, Hid (pathOf X = r) := ⟨_, Lib.hid rfl⟩
  rw [Hl.out]
  go_enter Tryz.func22, Tryz.ntmps22
  go_upto_region 2 with (fail)
  obtain ⟨w1, Hw1⟩ : ∃ u, Hid (w.alloc (.cells #[.int .i64 7, .string (str l), .string (str dst), .int .i64 off, .int .i64 nn, .string (str data)] 32) = u) := ⟨_, Lib.hid rfl⟩
  obtain ⟨w2, Hw2⟩ : ∃ u, Hid (w1.alloc (.cells ask0 49) = u) := ⟨_, Lib.hid rfl⟩
  obtain ⟨w3, Hw3⟩ : ∃ u, Hid (w2.alloc (.cells #[.int .i64 7, .string (str l), .string (str dst), .int .i64 off, .int .i64 nn, .string (str data), .slice none 0 0, .slice none 0 0, .int .i64 0] 49) = u) := ⟨_, Lib.hid rfl⟩
  obtain ⟨q, Hq⟩ : ∃ u, Hid (w.heap.size = u) := ⟨_, Lib.hid rfl⟩
  obtain ⟨p, Hp⟩ : ∃ u, Hid (w.heap.size + 1 = u) := ⟨_, Lib.hid rfl⟩
  obtain ⟨r, Hr⟩ : ∃ u, Hid (w.heap.size + 1 + 1 = u) := ⟨_, Lib.hid rfl⟩
  have e1 : w1.heap.size = p := by rw [← Hw1.out, ← Hp.out]; simp
  have e2 : w2.heap.size = r := by rw [← Hw2.out, ← Hr.out, Hp.out, ← e1]; simp
  have b1 : Below w.heap.size w w1 := by rw [← Hw1.out]; exact balloc (Below.refl _ _) _
  have b2 : Below w1.heap.size w1 w2 := by rw [← Hw2.out]; exact balloc (Below.refl _ _) _
  have b3 : Below w2.heap.size w2 w3 := by rw [← Hw3.out]; exact balloc (Below.refl _ _) _
  have Q3 : Hid (BoxC w3 q #[.int .i64 7, .string (str l), .string (str dst), .int .i64 off, .int .i64 nn, .string (str data)] 32) := Lib.hid (by
    have h : BoxC w1 q #[.int .i64 7, .string (str l), .string (str dst), .int .i64 off, .int .i64 nn, .string (str data)] 32 := by rw [← Hw1.out, ← Hq.out]; exact BoxC.new w _ _
    exact (h.below b2).below b3)
  have P3 : Hid (BoxC w3 p ask0 49) := Lib.hid (by
    have h : BoxC w2 p ask0 49 := by rw [← Hw2.out, ← e1]; exact BoxC.new w1 _ _
    exact h.below b3)
  have R3 : Hid (BoxC w3 r #[.int .i64 7, .string (str l), .string (str dst), .int .i64 off, .int .i64 nn, .string (str data), .slice none 0 0, .slice none 0 0, .int .i64 0] 49) := Lib.hid (by rw [← Hw3.out, ← e2]; exact BoxC.new w2 _ _)
  have B3 : Hid (Below w.heap.size w w3) := Lib.hid (bnext (bnext b1 b2) b3)
  have hpr : p ≠ r := by have := Hp.out; have := Hr.out; omega
  have hqr : q ≠ r := by have := Hq.out; have := Hr.out; omega
  clear b1 b2 b3 e1 e2
  rw [Hw1.out, Hw2.out, Hw3.out, Hr.out, Hp.out, Hq.out]
  have hln : True := trivial
  have c0 := Q3.out.cell 0 rfl
  have c1 := Q3.out.cell 1 rfl
  have c2 := Q3.out.cell 2 rfl
  go_wp2_with fail
  rw [show str l = str (pathOf X) by rw [Hl.out]]
  refine (names_any X hX hl 0 hle w3 (hm.below B3.out)).mono ?_
  rintro e w4 ⟨A, k, c, rfl, hkX, hkc, hnw, hG, hb⟩
  have B4 := Lib.hid (bnext B3.out hb)
  have Q4 := Lib.hid (Q3.out.below hb)
  have P4 := Lib.hid (P3.out.below hb)
  have R4 := Lib.hid (R3.out.below hb)
  have HGk := Lib.hid hG
  have HKk := Lib.hid (And.intro hkX hkc)
  have hwlt := R3.out.lt
  have HNk := Lib.hid hnw
  clear hb hG hkX hkc hnw
  have rc := R4.out.cell 6 rfl
  have rf := R4.out.free 6
  go_upto_region 14 with (fail)
  clear rc rf
  obtain ⟨w5, Hw5⟩ : ∃ u, Hid (w4.setCell ⟨r, 6, none⟩ (.slice A k c) = u) := ⟨_, Lib.hid rfl⟩
  have M5 : Hid (Mod (· = r) w4 w5) := Lib.hid (by rw [← Hw5.out]; exact (Mod.refl _ w4).set1 _)
  have R5 := Lib.hid (R4.out.put 6 (.slice A k c))
  rw [Hw5.out] at R5
  have P5 := Lib.hid (P4.out.kept M5.out hpr)
  have Q5 := Lib.hid (Q4.out.kept M5.out hqr)
  have B5 : Hid (Below w.heap.size w w5) := Lib.hid (bmod B4.out M5.out (by have := Hr.out; omega))
  have Gk : Hid (IsG w5 1 encT A k X) := Lib.hid (HGk.out.later M5.out (fun g off e _ e2 => by have h1 := HNk.out g off e; have h2 : g = r := e2; omega))
  rw [Hw5.out]
  have z0 := P5.out.cell 0 rfl
  have f0 := P5.out.free 0
  have z1 := P5.out.cell 1 rfl
  have f1 := P5.out.free 1
  have z2 := P5.out.cell 2 rfl
  have f2 := P5.out.free 2
  have z3 := P5.out.cell 3 rfl
  have f3 := P5.out.free 3
  have z4 := P5.out.cell 4 rfl
  have f4 := P5.out.free 4
  have z5 := P5.out.cell 5 rfl
  have f5 := P5.out.free 5
  have z6 := P5.out.cell 6 rfl
  have f6 := P5.out.free 6
  have z7 := P5.out.cell 7 rfl
  have f7 := P5.out.free 7
  have z8 := P5.out.cell 8 rfl
  have f8 := P5.out.free 8
  have v0 := R5.out.cell 0 rfl
  have v1 := R5.out.cell 1 rfl
  have v2 := R5.out.cell 2 rfl
  have v3 := R5.out.cell 3 rfl
  have v4 := R5.out.cell 4 rfl
  have v5 := R5.out.cell 5 rfl
  have v6 := R5.out.cell 6 rfl
  have v7 := R5.out.cell 7 rfl
  have v8 := R5.out.cell 8 rfl
  have PZ := Lib.hid (setA_box P5.out (⟨7, l, dst, off, nn, data⟩ : Cal) (.slice A k c) (.slice none 0 0) 0)
  have BZ : Hid (Below w.heap.size w (setA w5 p (⟨7, l, dst, off, nn, data⟩ : Cal) (.slice A k c) (.slice none 0 0) 0)) := Lib.hid (bmod B5.out (setA_mod w5 p (⟨7, l, dst, off, nn, data⟩ : Cal) (.slice A k c) (.slice none 0 0) 0) (by have := Hp.out; omega))
  have GZ : Hid (IsG (setA w5 p (⟨7, l, dst, off, nn, data⟩ : Cal) (.slice A k c) (.slice none 0 0) 0) 1 encT A k X) := Lib.hid ((Gk.out).later (setA_mod w5 p (⟨7, l, dst, off, nn, data⟩ : Cal) (.slice A k c) (.slice none 0 0) 0) (fun g off e _ e2 => by have h1 := HNk.out g off e; have h2 : g = p := e2; have h3 := P3.out.lt; omega))
  go_wp2
  obtain ⟨wz, Hwz⟩ : ∃ u, Hid (setA w5 p (⟨7, l, dst, off, nn, data⟩ : Cal) (.slice A k c) (.slice none 0 0) 0 = u) := ⟨_, Lib.hid rfl⟩
  rw [Hwz.out] at PZ BZ GZ
  rw [show ((((((((w5.setCell ⟨p, 0, none⟩ (.int .i64 7)).setCell ⟨p, 1, none⟩ (.string (str l))).setCell ⟨p, 2, none⟩ (.string (str dst))).setCell ⟨p, 3, none⟩ (.int .i64 off)).setCell ⟨p, 4, none⟩ (.int .i64 nn)).setCell ⟨p, 5, none⟩ (.string (str data))).setCell ⟨p, 6, none⟩ (.slice A k c)).setCell ⟨p, 7, none⟩ (.slice none 0 0)).setCell ⟨p, 8, none⟩ (.int .i64 0) = wz from Hwz.out]
  have s0 := PZ.out.cell 0 rfl
  have s1 := PZ.out.cell 1 rfl
  have s2 := PZ.out.cell 2 rfl
  have s3 := PZ.out.cell 3 rfl
  have s4 := PZ.out.cell 4 rfl
  have s5 := PZ.out.cell 5 rfl
  have s6 := PZ.out.cell 6 rfl
  have s7 := PZ.out.cell 7 rfl
  have s8 := PZ.out.cell 8 rfl
  exact bodyPost_ret (v := .tuple #[askV (⟨7, l, dst, off, nn, data⟩ : Cal) (.slice A k c) (.slice none 0 0) 0, .bool true]) (by simp [results, Tryz.results22, go_sem, s0, s1, s2, s3, s4, s5, s6, s7, s8]) rfl ⟨A, k, c, rfl, HKk.out.1, HKk.out.2, GZ.out, (fun g off e => Nat.le_trans B3.out.size (HNk.out g off e)), BZ.out⟩
set_option maxRecDepth 100000 in
theorem right_8 (w : World) (dst0 pth0 : List UInt8) (off nn : Int) (data : List UInt8) (h0 : 0 ≤ nn) (_h1 : nn ≤ 6144) : Calls Tryz.prog 23 #[calV ⟨8, pth0, dst0, off, nn, data⟩] w fun e w' => e = .returned (.bool true) ∧ Below w.heap.size w w' := by
  go_enter Tryz.func23, Tryz.ntmps23
  go_wp2
  go_ret
  exact ⟨rfl, (Below.refl _ _).alloc (Nat.le_refl _) _⟩
set_option maxRecDepth 100000 in
theorem many_8 (w : World) (dst0 pth0 : List UInt8) (off nn : Int) (data : List UInt8) (h0 : 0 ≤ nn) (h1 : nn ≤ 6144) : Calls Tryz.prog 24 #[calV ⟨8, pth0, dst0, off, nn, data⟩] w fun e w' => e = .returned (.bool false) ∧ Below w.heap.size w w' := by
  have hlt : ¬ 6144 < nn := by omega
  go_enter Tryz.func24, Tryz.ntmps24
  go_wp2
  go_ret
  exact ⟨rfl, (Below.refl _ _).alloc (Nat.le_refl _) _⟩
set_option maxRecDepth 100000 in
set_option maxHeartbeats 4000000 in
theorem paths_8 (X : List (List UInt8)) (hX : PathOk X) (hl : (pathOf X).length ≤ 1000000) (hle : 0 ≤ X.length) (off nn : Int) (data : List UInt8) (dst : List UInt8) (w : World) (hm : Mx w) :
    Calls Tryz.prog 22 #[calV ⟨8, pathOf X, dst, off, nn, data⟩] w fun e w' => ∃ A k c, e = .returned (.tuple #[askV ⟨8, pathOf X, dst, off, nn, data⟩ (.slice A k c) (.slice none 0 0) 0, .bool true]) ∧ k = X.length ∧ k ≤ c ∧ IsG w' 1 encT A k X ∧ (∀ g off, A = some ⟨g, off, none⟩ → w.heap.size ≤ g) ∧ Below w.heap.size w w' := by
  obtain ⟨l, Hl⟩ : ∃ r, Hid (pathOf X = r) := ⟨_, Lib.hid rfl⟩
  rw [Hl.out]
  go_enter Tryz.func22, Tryz.ntmps22
  go_upto_region 2 with (fail)
  obtain ⟨w1, Hw1⟩ : ∃ u, Hid (w.alloc (.cells #[.int .i64 8, .string (str l), .string (str dst), .int .i64 off, .int .i64 nn, .string (str data)] 32) = u) := ⟨_, Lib.hid rfl⟩
  obtain ⟨w2, Hw2⟩ : ∃ u, Hid (w1.alloc (.cells ask0 49) = u) := ⟨_, Lib.hid rfl⟩
  obtain ⟨w3, Hw3⟩ : ∃ u, Hid (w2.alloc (.cells #[.int .i64 8, .string (str l), .string (str dst), .int .i64 off, .int .i64 nn, .string (str data), .slice none 0 0, .slice none 0 0, .int .i64 0] 49) = u) := ⟨_, Lib.hid rfl⟩
  obtain ⟨q, Hq⟩ : ∃ u, Hid (w.heap.size = u) := ⟨_, Lib.hid rfl⟩
  obtain ⟨p, Hp⟩ : ∃ u, Hid (w.heap.size + 1 = u) := ⟨_, Lib.hid rfl⟩
  obtain ⟨r, Hr⟩ : ∃ u, Hid (w.heap.size + 1 + 1 = u) := ⟨_, Lib.hid rfl⟩
  have e1 : w1.heap.size = p := by rw [← Hw1.out, ← Hp.out]; simp
  have e2 : w2.heap.size = r := by rw [← Hw2.out, ← Hr.out, Hp.out, ← e1]; simp
  have b1 : Below w.heap.size w w1 := by rw [← Hw1.out]; exact balloc (Below.refl _ _) _
  have b2 : Below w1.heap.size w1 w2 := by rw [← Hw2.out]; exact balloc (Below.refl _ _) _
  have b3 : Below w2.heap.size w2 w3 := by rw [← Hw3.out]; exact balloc (Below.refl _ _) _
  have Q3 : Hid (BoxC w3 q #[.int .i64 8, .string (str l), .string (str dst), .int .i64 off, .int .i64 nn, .string (str data)] 32) := Lib.hid (by
    have h : BoxC w1 q #[.int .i64 8, .string (str l), .string (str dst), .int .i64 off, .int .i64 nn, .string (str data)] 32 := by rw [← Hw1.out, ← Hq.out]; exact BoxC.new w _ _
    exact (h.below b2).below b3)
  have P3 : Hid (BoxC w3 p ask0 49) := Lib.hid (by
    have h : BoxC w2 p ask0 49 := by rw [← Hw2.out, ← e1]; exact BoxC.new w1 _ _
    exact h.below b3)
  have R3 : Hid (BoxC w3 r #[.int .i64 8, .string (str l), .string (str dst), .int .i64 off, .int .i64 nn, .string (str data), .slice none 0 0, .slice none 0 0, .int .i64 0] 49) := Lib.hid (by rw [← Hw3.out, ← e2]; exact BoxC.new w2 _ _)
  have B3 : Hid (Below w.heap.size w w3) := Lib.hid (bnext (bnext b1 b2) b3)
  have hpr : p ≠ r := by have := Hp.out; have := Hr.out; omega
  have hqr : q ≠ r := by have := Hq.out; have := Hr.out; omega
  clear b1 b2 b3 e1 e2
  rw [Hw1.out, Hw2.out, Hw3.out, Hr.out, Hp.out, Hq.out]
  have hln : True := trivial
  have c0 := Q3.out.cell 0 rfl
  have c1 := Q3.out.cell 1 rfl
  have c2 := Q3.out.cell 2 rfl
  go_wp2_with fail
  rw [show str l = str (pathOf X) by rw [Hl.out]]
  refine (names_any X hX hl 0 hle w3 (hm.below B3.out)).mono ?_
  rintro e w4 ⟨A, k, c, rfl, hkX, hkc, hnw, hG, hb⟩
  have B4 := Lib.hid (bnext B3.out hb)
  have Q4 := Lib.hid (Q3.out.below hb)
  have P4 := Lib.hid (P3.out.below hb)
  have R4 := Lib.hid (R3.out.below hb)
  have HGk := Lib.hid hG
  have HKk := Lib.hid (And.intro hkX hkc)
  have hwlt := R3.out.lt
  have HNk := Lib.hid hnw
  clear hb hG hkX hkc hnw
  have rc := R4.out.cell 6 rfl
  have rf := R4.out.free 6
  go_upto_region 14 with (fail)
  clear rc rf
  obtain ⟨w5, Hw5⟩ : ∃ u, Hid (w4.setCell ⟨r, 6, none⟩ (.slice A k c) = u) := ⟨_, Lib.hid rfl⟩
  have M5 : Hid (Mod (· = r) w4 w5) := Lib.hid (by rw [← Hw5.out]; exact (Mod.refl _ w4).set1 _)
  have R5 := Lib.hid (R4.out.put 6 (.slice A k c))
  rw [Hw5.out] at R5
  have P5 := Lib.hid (P4.out.kept M5.out hpr)
  have Q5 := Lib.hid (Q4.out.kept M5.out hqr)
  have B5 : Hid (Below w.heap.size w w5) := Lib.hid (bmod B4.out M5.out (by have := Hr.out; omega))
  have Gk : Hid (IsG w5 1 encT A k X) := Lib.hid (HGk.out.later M5.out (fun g off e _ e2 => by have h1 := HNk.out g off e; have h2 : g = r := e2; omega))
  rw [Hw5.out]
  have z0 := P5.out.cell 0 rfl
  have f0 := P5.out.free 0
  have z1 := P5.out.cell 1 rfl
  have f1 := P5.out.free 1
  have z2 := P5.out.cell 2 rfl
  have f2 := P5.out.free 2
  have z3 := P5.out.cell 3 rfl
  have f3 := P5.out.free 3
  have z4 := P5.out.cell 4 rfl
  have f4 := P5.out.free 4
  have z5 := P5.out.cell 5 rfl
  have f5 := P5.out.free 5
  have z6 := P5.out.cell 6 rfl
  have f6 := P5.out.free 6
  have z7 := P5.out.cell 7 rfl
  have f7 := P5.out.free 7
  have z8 := P5.out.cell 8 rfl
  have f8 := P5.out.free 8
  have v0 := R5.out.cell 0 rfl
  have v1 := R5.out.cell 1 rfl
  have v2 := R5.out.cell 2 rfl
  have v3 := R5.out.cell 3 rfl
  have v4 := R5.out.cell 4 rfl
  have v5 := R5.out.cell 5 rfl
  have v6 := R5.out.cell 6 rfl
  have v7 := R5.out.cell 7 rfl
  have v8 := R5.out.cell 8 rfl
  have PZ := Lib.hid (setA_box P5.out (⟨8, l, dst, off, nn, data⟩ : Cal) (.slice A k c) (.slice none 0 0) 0)
  have BZ : Hid (Below w.heap.size w (setA w5 p (⟨8, l, dst, off, nn, data⟩ : Cal) (.slice A k c) (.slice none 0 0) 0)) := Lib.hid (bmod B5.out (setA_mod w5 p (⟨8, l, dst, off, nn, data⟩ : Cal) (.slice A k c) (.slice none 0 0) 0) (by have := Hp.out; omega))
  have GZ : Hid (IsG (setA w5 p (⟨8, l, dst, off, nn, data⟩ : Cal) (.slice A k c) (.slice none 0 0) 0) 1 encT A k X) := Lib.hid ((Gk.out).later (setA_mod w5 p (⟨8, l, dst, off, nn, data⟩ : Cal) (.slice A k c) (.slice none 0 0) 0) (fun g off e _ e2 => by have h1 := HNk.out g off e; have h2 : g = p := e2; have h3 := P3.out.lt; omega))
  go_wp2
  obtain ⟨wz, Hwz⟩ : ∃ u, Hid (setA w5 p (⟨8, l, dst, off, nn, data⟩ : Cal) (.slice A k c) (.slice none 0 0) 0 = u) := ⟨_, Lib.hid rfl⟩
  rw [Hwz.out] at PZ BZ GZ
  rw [show ((((((((w5.setCell ⟨p, 0, none⟩ (.int .i64 8)).setCell ⟨p, 1, none⟩ (.string (str l))).setCell ⟨p, 2, none⟩ (.string (str dst))).setCell ⟨p, 3, none⟩ (.int .i64 off)).setCell ⟨p, 4, none⟩ (.int .i64 nn)).setCell ⟨p, 5, none⟩ (.string (str data))).setCell ⟨p, 6, none⟩ (.slice A k c)).setCell ⟨p, 7, none⟩ (.slice none 0 0)).setCell ⟨p, 8, none⟩ (.int .i64 0) = wz from Hwz.out]
  have s0 := PZ.out.cell 0 rfl
  have s1 := PZ.out.cell 1 rfl
  have s2 := PZ.out.cell 2 rfl
  have s3 := PZ.out.cell 3 rfl
  have s4 := PZ.out.cell 4 rfl
  have s5 := PZ.out.cell 5 rfl
  have s6 := PZ.out.cell 6 rfl
  have s7 := PZ.out.cell 7 rfl
  have s8 := PZ.out.cell 8 rfl
  exact bodyPost_ret (v := .tuple #[askV (⟨8, l, dst, off, nn, data⟩ : Cal) (.slice A k c) (.slice none 0 0) 0, .bool true]) (by simp [results, Tryz.results22, go_sem, s0, s1, s2, s3, s4, s5, s6, s7, s8]) rfl ⟨A, k, c, rfl, HKk.out.1, HKk.out.2, GZ.out, (fun g off e => Nat.le_trans B3.out.size (HNk.out g off e)), BZ.out⟩
set_option maxRecDepth 100000 in
theorem right_10 (w : World) (dst0 pth0 : List UInt8) (off nn : Int) (data : List UInt8) : Calls Tryz.prog 23 #[calV ⟨10, pth0, dst0, off, nn, data⟩] w fun e w' => e = .returned (.bool true) ∧ Below w.heap.size w w' := by
  go_enter Tryz.func23, Tryz.ntmps23
  go_wp2
  go_ret
  exact ⟨rfl, (Below.refl _ _).alloc (Nat.le_refl _) _⟩
set_option maxRecDepth 100000 in
theorem many_10 (w : World) (dst0 pth0 : List UInt8) (off nn : Int) (data : List UInt8) : Calls Tryz.prog 24 #[calV ⟨10, pth0, dst0, off, nn, data⟩] w fun e w' => e = .returned (.bool false) ∧ Below w.heap.size w w' := by
  go_enter Tryz.func24, Tryz.ntmps24
  go_wp2
  go_ret
  exact ⟨rfl, (Below.refl _ _).alloc (Nat.le_refl _) _⟩
set_option maxRecDepth 100000 in
set_option maxHeartbeats 4000000 in
theorem paths_10 (X : List (List UInt8)) (hX : PathOk X) (hl : (pathOf X).length ≤ 1000000) (hle : 0 ≤ X.length) (off nn : Int) (data : List UInt8) (dst : List UInt8) (w : World) (hm : Mx w) :
    Calls Tryz.prog 22 #[calV ⟨10, pathOf X, dst, off, nn, data⟩] w fun e w' => ∃ A k c, e = .returned (.tuple #[askV ⟨10, pathOf X, dst, off, nn, data⟩ (.slice A k c) (.slice none 0 0) 0, .bool true]) ∧ k = X.length ∧ k ≤ c ∧ IsG w' 1 encT A k X ∧ (∀ g off, A = some ⟨g, off, none⟩ → w.heap.size ≤ g) ∧ Below w.heap.size w w' := by
  obtain ⟨l, Hl⟩ : ∃ r, Hid (pathOf X = r) := ⟨_, Lib.hid rfl⟩
  rw [Hl.out]
  go_enter Tryz.func22, Tryz.ntmps22
  go_upto_region 2 with (fail)
  obtain ⟨w1, Hw1⟩ : ∃ u, Hid (w.alloc (.cells #[.int .i64 10, .string (str l), .string (str dst), .int .i64 off, .int .i64 nn, .string (str data)] 32) = u) := ⟨_, Lib.hid rfl⟩
  obtain ⟨w2, Hw2⟩ : ∃ u, Hid (w1.alloc (.cells ask0 49) = u) := ⟨_, Lib.hid rfl⟩
  obtain ⟨w3, Hw3⟩ : ∃ u, Hid (w2.alloc (.cells #[.int .i64 10, .string (str l), .string (str dst), .int .i64 off, .int .i64 nn, .string (str data), .slice none 0 0, .slice none 0 0, .int .i64 0] 49) = u) := ⟨_, Lib.hid rfl⟩
  obtain ⟨q, Hq⟩ : ∃ u, Hid (w.heap.size = u) := ⟨_, Lib.hid rfl⟩
  obtain ⟨p, Hp⟩ : ∃ u, Hid (w.heap.size + 1 = u) := ⟨_, Lib.hid rfl⟩
  obtain ⟨r, Hr⟩ : ∃ u, Hid (w.heap.size + 1 + 1 = u) := ⟨_, Lib.hid rfl⟩
  have e1 : w1.heap.size = p := by rw [← Hw1.out, ← Hp.out]; simp
  have e2 : w2.heap.size = r := by rw [← Hw2.out, ← Hr.out, Hp.out, ← e1]; simp
  have b1 : Below w.heap.size w w1 := by rw [← Hw1.out]; exact balloc (Below.refl _ _) _
  have b2 : Below w1.heap.size w1 w2 := by rw [← Hw2.out]; exact balloc (Below.refl _ _) _
  have b3 : Below w2.heap.size w2 w3 := by rw [← Hw3.out]; exact balloc (Below.refl _ _) _
  have Q3 : Hid (BoxC w3 q #[.int .i64 10, .string (str l), .string (str dst), .int .i64 off, .int .i64 nn, .string (str data)] 32) := Lib.hid (by
    have h : BoxC w1 q #[.int .i64 10, .string (str l), .string (str dst), .int .i64 off, .int .i64 nn, .string (str data)] 32 := by rw [← Hw1.out, ← Hq.out]; exact BoxC.new w _ _
    exact (h.below b2).below b3)
  have P3 : Hid (BoxC w3 p ask0 49) := Lib.hid (by
    have h : BoxC w2 p ask0 49 := by rw [← Hw2.out, ← e1]; exact BoxC.new w1 _ _
    exact h.below b3)
  have R3 : Hid (BoxC w3 r #[.int .i64 10, .string (str l), .string (str dst), .int .i64 off, .int .i64 nn, .string (str data), .slice none 0 0, .slice none 0 0, .int .i64 0] 49) := Lib.hid (by rw [← Hw3.out, ← e2]; exact BoxC.new w2 _ _)
  have B3 : Hid (Below w.heap.size w w3) := Lib.hid (bnext (bnext b1 b2) b3)
  have hpr : p ≠ r := by have := Hp.out; have := Hr.out; omega
  have hqr : q ≠ r := by have := Hq.out; have := Hr.out; omega
  clear b1 b2 b3 e1 e2
  rw [Hw1.out, Hw2.out, Hw3.out, Hr.out, Hp.out, Hq.out]
  have hln : True := trivial
  have c0 := Q3.out.cell 0 rfl
  have c1 := Q3.out.cell 1 rfl
  have c2 := Q3.out.cell 2 rfl
  go_wp2_with fail
  rw [show str l = str (pathOf X) by rw [Hl.out]]
  refine (names_any X hX hl 0 hle w3 (hm.below B3.out)).mono ?_
  rintro e w4 ⟨A, k, c, rfl, hkX, hkc, hnw, hG, hb⟩
  have B4 := Lib.hid (bnext B3.out hb)
  have Q4 := Lib.hid (Q3.out.below hb)
  have P4 := Lib.hid (P3.out.below hb)
  have R4 := Lib.hid (R3.out.below hb)
  have HGk := Lib.hid hG
  have HKk := Lib.hid (And.intro hkX hkc)
  have hwlt := R3.out.lt
  have HNk := Lib.hid hnw
  clear hb hG hkX hkc hnw
  have rc := R4.out.cell 6 rfl
  have rf := R4.out.free 6
  go_upto_region 14 with (fail)
  clear rc rf
  obtain ⟨w5, Hw5⟩ : ∃ u, Hid (w4.setCell ⟨r, 6, none⟩ (.slice A k c) = u) := ⟨_, Lib.hid rfl⟩
  have M5 : Hid (Mod (· = r) w4 w5) := Lib.hid (by rw [← Hw5.out]; exact (Mod.refl _ w4).set1 _)
  have R5 := Lib.hid (R4.out.put 6 (.slice A k c))
  rw [Hw5.out] at R5
  have P5 := Lib.hid (P4.out.kept M5.out hpr)
  have Q5 := Lib.hid (Q4.out.kept M5.out hqr)
  have B5 : Hid (Below w.heap.size w w5) := Lib.hid (bmod B4.out M5.out (by have := Hr.out; omega))
  have Gk : Hid (IsG w5 1 encT A k X) := Lib.hid (HGk.out.later M5.out (fun g off e _ e2 => by have h1 := HNk.out g off e; have h2 : g = r := e2; omega))
  rw [Hw5.out]
  have z0 := P5.out.cell 0 rfl
  have f0 := P5.out.free 0
  have z1 := P5.out.cell 1 rfl
  have f1 := P5.out.free 1
  have z2 := P5.out.cell 2 rfl
  have f2 := P5.out.free 2
  have z3 := P5.out.cell 3 rfl
  have f3 := P5.out.free 3
  have z4 := P5.out.cell 4 rfl
  have f4 := P5.out.free 4
  have z5 := P5.out.cell 5 rfl
  have f5 := P5.out.free 5
  have z6 := P5.out.cell 6 rfl
  have f6 := P5.out.free 6
  have z7 := P5.out.cell 7 rfl
  have f7 := P5.out.free 7
  have z8 := P5.out.cell 8 rfl
  have f8 := P5.out.free 8
  have v0 := R5.out.cell 0 rfl
  have v1 := R5.out.cell 1 rfl
  have v2 := R5.out.cell 2 rfl
  have v3 := R5.out.cell 3 rfl
  have v4 := R5.out.cell 4 rfl
  have v5 := R5.out.cell 5 rfl
  have v6 := R5.out.cell 6 rfl
  have v7 := R5.out.cell 7 rfl
  have v8 := R5.out.cell 8 rfl
  have PZ := Lib.hid (setA_box P5.out (⟨10, l, dst, off, nn, data⟩ : Cal) (.slice A k c) (.slice none 0 0) 0)
  have BZ : Hid (Below w.heap.size w (setA w5 p (⟨10, l, dst, off, nn, data⟩ : Cal) (.slice A k c) (.slice none 0 0) 0)) := Lib.hid (bmod B5.out (setA_mod w5 p (⟨10, l, dst, off, nn, data⟩ : Cal) (.slice A k c) (.slice none 0 0) 0) (by have := Hp.out; omega))
  have GZ : Hid (IsG (setA w5 p (⟨10, l, dst, off, nn, data⟩ : Cal) (.slice A k c) (.slice none 0 0) 0) 1 encT A k X) := Lib.hid ((Gk.out).later (setA_mod w5 p (⟨10, l, dst, off, nn, data⟩ : Cal) (.slice A k c) (.slice none 0 0) 0) (fun g off e _ e2 => by have h1 := HNk.out g off e; have h2 : g = p := e2; have h3 := P3.out.lt; omega))
  go_wp2
  obtain ⟨wz, Hwz⟩ : ∃ u, Hid (setA w5 p (⟨10, l, dst, off, nn, data⟩ : Cal) (.slice A k c) (.slice none 0 0) 0 = u) := ⟨_, Lib.hid rfl⟩
  rw [Hwz.out] at PZ BZ GZ
  rw [show ((((((((w5.setCell ⟨p, 0, none⟩ (.int .i64 10)).setCell ⟨p, 1, none⟩ (.string (str l))).setCell ⟨p, 2, none⟩ (.string (str dst))).setCell ⟨p, 3, none⟩ (.int .i64 off)).setCell ⟨p, 4, none⟩ (.int .i64 nn)).setCell ⟨p, 5, none⟩ (.string (str data))).setCell ⟨p, 6, none⟩ (.slice A k c)).setCell ⟨p, 7, none⟩ (.slice none 0 0)).setCell ⟨p, 8, none⟩ (.int .i64 0) = wz from Hwz.out]
  have s0 := PZ.out.cell 0 rfl
  have s1 := PZ.out.cell 1 rfl
  have s2 := PZ.out.cell 2 rfl
  have s3 := PZ.out.cell 3 rfl
  have s4 := PZ.out.cell 4 rfl
  have s5 := PZ.out.cell 5 rfl
  have s6 := PZ.out.cell 6 rfl
  have s7 := PZ.out.cell 7 rfl
  have s8 := PZ.out.cell 8 rfl
  exact bodyPost_ret (v := .tuple #[askV (⟨10, l, dst, off, nn, data⟩ : Cal) (.slice A k c) (.slice none 0 0) 0, .bool true]) (by simp [results, Tryz.results22, go_sem, s0, s1, s2, s3, s4, s5, s6, s7, s8]) rfl ⟨A, k, c, rfl, HKk.out.1, HKk.out.2, GZ.out, (fun g off e => Nat.le_trans B3.out.size (HNk.out g off e)), BZ.out⟩
set_option maxRecDepth 100000 in
theorem right_12 (w : World) (dst0 pth0 : List UInt8) (off nn : Int) (data : List UInt8) : Calls Tryz.prog 23 #[calV ⟨12, pth0, dst0, off, nn, data⟩] w fun e w' => e = .returned (.bool true) ∧ Below w.heap.size w w' := by
  go_enter Tryz.func23, Tryz.ntmps23
  go_wp2
  go_ret
  exact ⟨rfl, (Below.refl _ _).alloc (Nat.le_refl _) _⟩
set_option maxRecDepth 100000 in
theorem many_12 (w : World) (dst0 pth0 : List UInt8) (off nn : Int) (data : List UInt8) : Calls Tryz.prog 24 #[calV ⟨12, pth0, dst0, off, nn, data⟩] w fun e w' => e = .returned (.bool false) ∧ Below w.heap.size w w' := by
  go_enter Tryz.func24, Tryz.ntmps24
  go_wp2
  go_ret
  exact ⟨rfl, (Below.refl _ _).alloc (Nat.le_refl _) _⟩
set_option maxRecDepth 100000 in
set_option maxHeartbeats 4000000 in
theorem paths_12 (off nn : Int) (data : List UInt8) (pth dst : List UInt8) (w : World) (_hm : Mx w) :
    Calls Tryz.prog 22 #[calV ⟨12, pth, dst, off, nn, data⟩] w fun e w' => e = .returned (.tuple #[askV ⟨12, pth, dst, off, nn, data⟩ (.slice none 0 0) (.slice none 0 0) 0, .bool true]) ∧ Below w.heap.size w w' := by
  go_enter Tryz.func22, Tryz.ntmps22
  go_upto_region 2 with (fail)
  obtain ⟨w1, Hw1⟩ : ∃ u, Hid (w.alloc (.cells #[.int .i64 12, .string (str pth), .string (str dst), .int .i64 off, .int .i64 nn, .string (str data)] 32) = u) := ⟨_, Lib.hid rfl⟩
  obtain ⟨w2, Hw2⟩ : ∃ u, Hid (w1.alloc (.cells ask0 49) = u) := ⟨_, Lib.hid rfl⟩
  obtain ⟨w3, Hw3⟩ : ∃ u, Hid (w2.alloc (.cells #[.int .i64 12, .string (str pth), .string (str dst), .int .i64 off, .int .i64 nn, .string (str data), .slice none 0 0, .slice none 0 0, .int .i64 0] 49) = u) := ⟨_, Lib.hid rfl⟩
  obtain ⟨q, Hq⟩ : ∃ u, Hid (w.heap.size = u) := ⟨_, Lib.hid rfl⟩
  obtain ⟨p, Hp⟩ : ∃ u, Hid (w.heap.size + 1 = u) := ⟨_, Lib.hid rfl⟩
  obtain ⟨r, Hr⟩ : ∃ u, Hid (w.heap.size + 1 + 1 = u) := ⟨_, Lib.hid rfl⟩
  have e1 : w1.heap.size = p := by rw [← Hw1.out, ← Hp.out]; simp
  have e2 : w2.heap.size = r := by rw [← Hw2.out, ← Hr.out, Hp.out, ← e1]; simp
  have b1 : Below w.heap.size w w1 := by rw [← Hw1.out]; exact balloc (Below.refl _ _) _
  have b2 : Below w1.heap.size w1 w2 := by rw [← Hw2.out]; exact balloc (Below.refl _ _) _
  have b3 : Below w2.heap.size w2 w3 := by rw [← Hw3.out]; exact balloc (Below.refl _ _) _
  have Q3 : Hid (BoxC w3 q #[.int .i64 12, .string (str pth), .string (str dst), .int .i64 off, .int .i64 nn, .string (str data)] 32) := Lib.hid (by
    have h : BoxC w1 q #[.int .i64 12, .string (str pth), .string (str dst), .int .i64 off, .int .i64 nn, .string (str data)] 32 := by rw [← Hw1.out, ← Hq.out]; exact BoxC.new w _ _
    exact (h.below b2).below b3)
  have P3 : Hid (BoxC w3 p ask0 49) := Lib.hid (by
    have h : BoxC w2 p ask0 49 := by rw [← Hw2.out, ← e1]; exact BoxC.new w1 _ _
    exact h.below b3)
  have R3 : Hid (BoxC w3 r #[.int .i64 12, .string (str pth), .string (str dst), .int .i64 off, .int .i64 nn, .string (str data), .slice none 0 0, .slice none 0 0, .int .i64 0] 49) := Lib.hid (by rw [← Hw3.out, ← e2]; exact BoxC.new w2 _ _)
  have B3 : Hid (Below w.heap.size w w3) := Lib.hid (bnext (bnext b1 b2) b3)
  have hpr : p ≠ r := by have := Hp.out; have := Hr.out; omega
  have hqr : q ≠ r := by have := Hq.out; have := Hr.out; omega
  clear b1 b2 b3 e1 e2
  rw [Hw1.out, Hw2.out, Hw3.out, Hr.out, Hp.out, Hq.out]
  have hln : True := trivial
  have c0 := Q3.out.cell 0 rfl
  have c1 := Q3.out.cell 1 rfl
  have c2 := Q3.out.cell 2 rfl
  have z0 := P3.out.cell 0 rfl
  have f0 := P3.out.free 0
  have z1 := P3.out.cell 1 rfl
  have f1 := P3.out.free 1
  have z2 := P3.out.cell 2 rfl
  have f2 := P3.out.free 2
  have z3 := P3.out.cell 3 rfl
  have f3 := P3.out.free 3
  have z4 := P3.out.cell 4 rfl
  have f4 := P3.out.free 4
  have z5 := P3.out.cell 5 rfl
  have f5 := P3.out.free 5
  have z6 := P3.out.cell 6 rfl
  have f6 := P3.out.free 6
  have z7 := P3.out.cell 7 rfl
  have f7 := P3.out.free 7
  have z8 := P3.out.cell 8 rfl
  have f8 := P3.out.free 8
  have v0 := R3.out.cell 0 rfl
  have v1 := R3.out.cell 1 rfl
  have v2 := R3.out.cell 2 rfl
  have v3 := R3.out.cell 3 rfl
  have v4 := R3.out.cell 4 rfl
  have v5 := R3.out.cell 5 rfl
  have v6 := R3.out.cell 6 rfl
  have v7 := R3.out.cell 7 rfl
  have v8 := R3.out.cell 8 rfl
  have PZ := Lib.hid (setA_box P3.out (⟨12, pth, dst, off, nn, data⟩ : Cal) (.slice none 0 0) (.slice none 0 0) 0)
  have BZ : Hid (Below w.heap.size w (setA w3 p (⟨12, pth, dst, off, nn, data⟩ : Cal) (.slice none 0 0) (.slice none 0 0) 0)) := Lib.hid (bmod B3.out (setA_mod w3 p (⟨12, pth, dst, off, nn, data⟩ : Cal) (.slice none 0 0) (.slice none 0 0) 0) (by have := Hp.out; omega))
  go_wp2
  obtain ⟨wz, Hwz⟩ : ∃ u, Hid (setA w3 p (⟨12, pth, dst, off, nn, data⟩ : Cal) (.slice none 0 0) (.slice none 0 0) 0 = u) := ⟨_, Lib.hid rfl⟩
  rw [Hwz.out] at PZ BZ
  rw [show ((((((((w3.setCell ⟨p, 0, none⟩ (.int .i64 12)).setCell ⟨p, 1, none⟩ (.string (str pth))).setCell ⟨p, 2, none⟩ (.string (str dst))).setCell ⟨p, 3, none⟩ (.int .i64 off)).setCell ⟨p, 4, none⟩ (.int .i64 nn)).setCell ⟨p, 5, none⟩ (.string (str data))).setCell ⟨p, 6, none⟩ (.slice none 0 0)).setCell ⟨p, 7, none⟩ (.slice none 0 0)).setCell ⟨p, 8, none⟩ (.int .i64 0) = wz from Hwz.out]
  have s0 := PZ.out.cell 0 rfl
  have s1 := PZ.out.cell 1 rfl
  have s2 := PZ.out.cell 2 rfl
  have s3 := PZ.out.cell 3 rfl
  have s4 := PZ.out.cell 4 rfl
  have s5 := PZ.out.cell 5 rfl
  have s6 := PZ.out.cell 6 rfl
  have s7 := PZ.out.cell 7 rfl
  have s8 := PZ.out.cell 8 rfl
  exact bodyPost_ret (v := .tuple #[askV (⟨12, pth, dst, off, nn, data⟩ : Cal) (.slice none 0 0) (.slice none 0 0) 0, .bool true]) (by simp [results, Tryz.results22, go_sem, s0, s1, s2, s3, s4, s5, s6, s7, s8]) rfl ⟨rfl, BZ.out⟩
end Go.Proofs.YtiomhdanmcnaeaaGreatDoor
