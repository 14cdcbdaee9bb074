/- A call is asked: what it is, as far as it goes without a tree. -/
import Derived.Test.YtiomhdanmcnaeaaGreatDoorUi16
namespace Go.Proofs.YtiomhdanmcnaeaaGreatDoor
open Go.RowKit

set_option maxRecDepth 100000 in
set_option maxHeartbeats 4000000 in
theorem ask_1 (X : List (List UInt8)) (hX : PathOk X) (hl : (pathOf X).length ≤ 1000000) (hle : 1 ≤ X.length) (off nn : Int) (data : List UInt8) (dst : List UInt8)  (w : World) (hm : Mx w) :
    Calls Tryz.prog 13 #[calV ⟨1, pathOf X, dst, off, nn, data⟩] w fun e w' => ∃ A k c, e = .returned (.tuple #[askV ⟨1, pathOf X, dst, off, nn, data⟩ (.slice A k c) (.slice none 0 0) 0, .int .i64 0]) ∧ k = X.length ∧ k ≤ c ∧ IsG w' 1 encT A k X ∧ (∀ g off, A = some ⟨g, off, none⟩ → w.heap.size ≤ g) ∧ Below w.heap.size w w' := by
  obtain ⟨l, Hl⟩ : ∃ r, Hid (pathOf X = r) := ⟨_, Lib.hid rfl⟩
  have hP := fun (u : World) (hu : Mx u) => paths_1 X hX hl hle off nn data dst u hu
  rw [Hl.out]
  simp only [Hl.out] at hP
  have HP := Lib.hid hP
  clear hP
  go_enter Tryz.func13, Tryz.ntmps13
  go_upto_region 1 with (fail)
  obtain ⟨w1, Hw1⟩ : ∃ u, Hid (w.alloc (.cells #[.int .i64 1, .string (str l), .string (str dst), .int .i64 off, .int .i64 nn, .string (str data)] 32) = u) := ⟨_, Lib.hid rfl⟩
  obtain ⟨w2, Hw2⟩ : ∃ u, Hid (w1.alloc (.cells ask0 49) = u) := ⟨_, Lib.hid rfl⟩
  obtain ⟨q, Hq⟩ : ∃ u, Hid (w.heap.size = u) := ⟨_, Lib.hid rfl⟩
  obtain ⟨p, Hp⟩ : ∃ u, Hid (w.heap.size + 1 = u) := ⟨_, Lib.hid rfl⟩
  have e1 : w1.heap.size = p := by rw [← Hw1.out, ← Hp.out]; simp
  have b1 : Below w.heap.size w w1 := by rw [← Hw1.out]; exact balloc (Below.refl _ _) _
  have b2 : Below w1.heap.size w1 w2 := by rw [← Hw2.out]; exact balloc (Below.refl _ _) _
  have Q2 : Hid (BoxC w2 q #[.int .i64 1, .string (str l), .string (str dst), .int .i64 off, .int .i64 nn, .string (str data)] 32) := Lib.hid (by
    have h : BoxC w1 q #[.int .i64 1, .string (str l), .string (str dst), .int .i64 off, .int .i64 nn, .string (str data)] 32 := by rw [← Hw1.out, ← Hq.out]; exact BoxC.new w _ _
    exact h.below b2)
  have P2 : Hid (BoxC w2 p ask0 49) := Lib.hid (by rw [← Hw2.out, ← e1]; exact BoxC.new w1 _ _)
  have B2 : Hid (Below w.heap.size w w2) := Lib.hid (bnext b1 b2)
  clear b1 b2 e1
  rw [Hw1.out, Hw2.out, Hp.out, Hq.out]
  have c0 := Q2.out.cell 0 rfl
  have c1 := Q2.out.cell 1 rfl
  have c2 := Q2.out.cell 2 rfl
  have c3 := Q2.out.cell 3 rfl
  have c4 := Q2.out.cell 4 rfl
  have c5 := Q2.out.cell 5 rfl
  go_wp2_with fail
  clear c0 c1 c2 c3 c4 c5
  refine (HP.out w2 (hm.below B2.out)).mono ?_
  rintro e w3 ⟨A, k, c, rfl, hkX, hkc, hG, hnw, hb⟩
  have B3 := Lib.hid (bnext B2.out hb)
  have Q3 := Lib.hid (Q2.out.below hb)
  have P3 := Lib.hid (P2.out.below hb)
  have HG := Lib.hid hG
  have HK := Lib.hid (And.intro hkX hkc)
  have HN : Hid (∀ g off, A = some ⟨g, off, none⟩ → w2.heap.size ≤ g) := Lib.hid hnw
  clear hG hkX hkc hnw
  clear hb
  go_upto_region 2 with (fail)
  obtain ⟨w4, Hw4⟩ : ∃ u, Hid (w3.alloc (.cells #[.int .i64 1, .string (str l), .string (str dst), .int .i64 off, .int .i64 nn, .string (str data), .slice A k c, .slice none 0 0, .int .i64 0] 49) = u) := ⟨_, Lib.hid rfl⟩
  obtain ⟨r, Hr⟩ : ∃ u, Hid (w3.heap.size = u) := ⟨_, Lib.hid rfl⟩
  have R4 : Hid (BoxC w4 r #[.int .i64 1, .string (str l), .string (str dst), .int .i64 off, .int .i64 nn, .string (str data), .slice A k c, .slice none 0 0, .int .i64 0] 49) := Lib.hid (by rw [← Hw4.out, ← Hr.out]; exact BoxC.new w3 _ _)
  have b4 : Below w3.heap.size w3 w4 := by rw [← Hw4.out]; exact balloc (Below.refl _ _) _
  have B4 := Lib.hid (bnext B3.out b4)
  have Q4 := Lib.hid (Q3.out.below b4)
  have P4 := Lib.hid (P3.out.below b4)
  have C4 := Lib.hid b4
  clear b4
  rw [Hw4.out, Hr.out]
  have c0 := Q4.out.cell 0 rfl
  have c1 := Q4.out.cell 1 rfl
  have c2 := Q4.out.cell 2 rfl
  have c3 := Q4.out.cell 3 rfl
  have c4 := Q4.out.cell 4 rfl
  have c5 := Q4.out.cell 5 rfl
  go_wp2_with fail
  clear c0 c1 c2 c3 c4 c5
  refine (right_1 w4 dst l off nn data).mono ?_
  rintro e w5 ⟨rfl, hb⟩
  have B5 := Lib.hid (bnext B4.out hb)
  have Q5 := Lib.hid (Q4.out.below hb)
  have P5 := Lib.hid (P4.out.below hb)
  have R5 := Lib.hid (R4.out.below hb)
  have C5 := Lib.hid (bnext C4.out hb)
  clear hb
  have c0 := Q5.out.cell 0 rfl
  have c1 := Q5.out.cell 1 rfl
  have c2 := Q5.out.cell 2 rfl
  have c3 := Q5.out.cell 3 rfl
  have c4 := Q5.out.cell 4 rfl
  have c5 := Q5.out.cell 5 rfl
  go_wp2_with fail
  clear c0 c1 c2 c3 c4 c5
  refine (many_1 w5 dst l off nn data).mono ?_
  rintro e w6 ⟨rfl, hb⟩
  have B6 := Lib.hid (bnext B5.out hb)
  have P6 := Lib.hid (P5.out.below hb)
  have R6 := Lib.hid (R5.out.below hb)
  have C6 := Lib.hid (bnext C5.out hb)
  clear hb
  have z0 := P6.out.cell 0 rfl
  have f0 := P6.out.free 0
  have z1 := P6.out.cell 1 rfl
  have f1 := P6.out.free 1
  have z2 := P6.out.cell 2 rfl
  have f2 := P6.out.free 2
  have z3 := P6.out.cell 3 rfl
  have f3 := P6.out.free 3
  have z4 := P6.out.cell 4 rfl
  have f4 := P6.out.free 4
  have z5 := P6.out.cell 5 rfl
  have f5 := P6.out.free 5
  have z6 := P6.out.cell 6 rfl
  have f6 := P6.out.free 6
  have z7 := P6.out.cell 7 rfl
  have f7 := P6.out.free 7
  have z8 := P6.out.cell 8 rfl
  have f8 := P6.out.free 8
  have v0 := R6.out.cell 0 rfl
  have v1 := R6.out.cell 1 rfl
  have v2 := R6.out.cell 2 rfl
  have v3 := R6.out.cell 3 rfl
  have v4 := R6.out.cell 4 rfl
  have v5 := R6.out.cell 5 rfl
  have v6 := R6.out.cell 6 rfl
  have v7 := R6.out.cell 7 rfl
  have v8 := R6.out.cell 8 rfl
  have PZ := Lib.hid (setA_box P6.out (⟨1, l, dst, off, nn, data⟩ : Cal) (.slice A k c) (.slice none 0 0) 0)
  have BZ : Hid (Below w.heap.size w (setA w6 p (⟨1, l, dst, off, nn, data⟩ : Cal) (.slice A k c) (.slice none 0 0) 0)) := Lib.hid (bmod B6.out (setA_mod w6 p (⟨1, l, dst, off, nn, data⟩ : Cal) (.slice A k c) (.slice none 0 0) 0) (by have := Hp.out; omega))
  have GZ : Hid (IsG (setA w6 p (⟨1, l, dst, off, nn, data⟩ : Cal) (.slice A k c) (.slice none 0 0) 0) 1 encT A k X) := Lib.hid ((HG.out.below C6.out).later (setA_mod w6 p (⟨1, l, dst, off, nn, data⟩ : Cal) (.slice A k c) (.slice none 0 0) 0) (fun g off e _ e2 => by have h1 := HN.out g off e; have h2 : g = p := e2; have h3 := P2.out.lt; omega))
  go_wp2
  obtain ⟨wz, Hwz⟩ : ∃ u, Hid (setA w6 p (⟨1, l, dst, off, nn, data⟩ : Cal) (.slice A k c) (.slice none 0 0) 0 = u) := ⟨_, Lib.hid rfl⟩
  rw [Hwz.out] at PZ BZ GZ
  rw [show ((((((((w6.setCell ⟨p, 0, none⟩ (.int .i64 1)).setCell ⟨p, 1, none⟩ (.string (str l))).setCell ⟨p, 2, none⟩ (.string (str dst))).setCell ⟨p, 3, none⟩ (.int .i64 off)).setCell ⟨p, 4, none⟩ (.int .i64 nn)).setCell ⟨p, 5, none⟩ (.string (str data))).setCell ⟨p, 6, none⟩ (.slice A k c)).setCell ⟨p, 7, none⟩ (.slice none 0 0)).setCell ⟨p, 8, none⟩ (.int .i64 0) = wz from Hwz.out]
  have s0 := PZ.out.cell 0 rfl
  have s1 := PZ.out.cell 1 rfl
  have s2 := PZ.out.cell 2 rfl
  have s3 := PZ.out.cell 3 rfl
  have s4 := PZ.out.cell 4 rfl
  have s5 := PZ.out.cell 5 rfl
  have s6 := PZ.out.cell 6 rfl
  have s7 := PZ.out.cell 7 rfl
  have s8 := PZ.out.cell 8 rfl
  exact bodyPost_ret (v := .tuple #[askV (⟨1, l, dst, off, nn, data⟩ : Cal) (.slice A k c) (.slice none 0 0) 0, .int .i64 0]) (by simp [results, Tryz.results13, go_sem, s0, s1, s2, s3, s4, s5, s6, s7, s8]) rfl ⟨A, k, c, rfl, HK.out.1, HK.out.2, GZ.out, (fun g off e => Nat.le_trans B2.out.size (HN.out g off e)), BZ.out⟩
set_option maxRecDepth 100000 in
set_option maxHeartbeats 4000000 in
theorem ask_2 (X : List (List UInt8)) (hX : PathOk X) (hl : (pathOf X).length ≤ 1000000) (hle : 1 ≤ X.length) (off nn : Int) (data : List UInt8) (dst : List UInt8)  (w : World) (hm : Mx w) :
    Calls Tryz.prog 13 #[calV ⟨2, pathOf X, dst, off, nn, data⟩] w fun e w' => ∃ A k c, e = .returned (.tuple #[askV ⟨2, pathOf X, dst, off, nn, data⟩ (.slice A k c) (.slice none 0 0) 0, .int .i64 0]) ∧ k = X.length ∧ k ≤ c ∧ IsG w' 1 encT A k X ∧ (∀ g off, A = some ⟨g, off, none⟩ → w.heap.size ≤ g) ∧ Below w.heap.size w w' := by
  obtain ⟨l, Hl⟩ : ∃ r, Hid (pathOf X = r) := ⟨_, Lib.hid rfl⟩
  have hP := fun (u : World) (hu : Mx u) => paths_2 X hX hl hle off nn data dst u hu
  rw [Hl.out]
  simp only [Hl.out] at hP
  have HP := Lib.hid hP
  clear hP
  go_enter Tryz.func13, Tryz.ntmps13
  go_upto_region 1 with (fail)
  obtain ⟨w1, Hw1⟩ : ∃ u, Hid (w.alloc (.cells #[.int .i64 2, .string (str l), .string (str dst), .int .i64 off, .int .i64 nn, .string (str data)] 32) = u) := ⟨_, Lib.hid rfl⟩
  obtain ⟨w2, Hw2⟩ : ∃ u, Hid (w1.alloc (.cells ask0 49) = u) := ⟨_, Lib.hid rfl⟩
  obtain ⟨q, Hq⟩ : ∃ u, Hid (w.heap.size = u) := ⟨_, Lib.hid rfl⟩
  obtain ⟨p, Hp⟩ : ∃ u, Hid (w.heap.size + 1 = u) := ⟨_, Lib.hid rfl⟩
  have e1 : w1.heap.size = p := by rw [← Hw1.out, ← Hp.out]; simp
  have b1 : Below w.heap.size w w1 := by rw [← Hw1.out]; exact balloc (Below.refl _ _) _
  have b2 : Below w1.heap.size w1 w2 := by rw [← Hw2.out]; exact balloc (Below.refl _ _) _
  have Q2 : Hid (BoxC w2 q #[.int .i64 2, .string (str l), .string (str dst), .int .i64 off, .int .i64 nn, .string (str data)] 32) := Lib.hid (by
    have h : BoxC w1 q #[.int .i64 2, .string (str l), .string (str dst), .int .i64 off, .int .i64 nn, .string (str data)] 32 := by rw [← Hw1.out, ← Hq.out]; exact BoxC.new w _ _
    exact h.below b2)
  have P2 : Hid (BoxC w2 p ask0 49) := Lib.hid (by rw [← Hw2.out, ← e1]; exact BoxC.new w1 _ _)
  have B2 : Hid (Below w.heap.size w w2) := Lib.hid (bnext b1 b2)
  clear b1 b2 e1
  rw [Hw1.out, Hw2.out, Hp.out, Hq.out]
  have c0 := Q2.out.cell 0 rfl
  have c1 := Q2.out.cell 1 rfl
  have c2 := Q2.out.cell 2 rfl
  have c3 := Q2.out.cell 3 rfl
  have c4 := Q2.out.cell 4 rfl
  have c5 := Q2.out.cell 5 rfl
  go_wp2_with fail
  clear c0 c1 c2 c3 c4 c5
  refine (HP.out w2 (hm.below B2.out)).mono ?_
  rintro e w3 ⟨A, k, c, rfl, hkX, hkc, hG, hnw, hb⟩
  have B3 := Lib.hid (bnext B2.out hb)
  have Q3 := Lib.hid (Q2.out.below hb)
  have P3 := Lib.hid (P2.out.below hb)
  have HG := Lib.hid hG
  have HK := Lib.hid (And.intro hkX hkc)
  have HN : Hid (∀ g off, A = some ⟨g, off, none⟩ → w2.heap.size ≤ g) := Lib.hid hnw
  clear hG hkX hkc hnw
  clear hb
  go_upto_region 2 with (fail)
  obtain ⟨w4, Hw4⟩ : ∃ u, Hid (w3.alloc (.cells #[.int .i64 2, .string (str l), .string (str dst), .int .i64 off, .int .i64 nn, .string (str data), .slice A k c, .slice none 0 0, .int .i64 0] 49) = u) := ⟨_, Lib.hid rfl⟩
  obtain ⟨r, Hr⟩ : ∃ u, Hid (w3.heap.size = u) := ⟨_, Lib.hid rfl⟩
  have R4 : Hid (BoxC w4 r #[.int .i64 2, .string (str l), .string (str dst), .int .i64 off, .int .i64 nn, .string (str data), .slice A k c, .slice none 0 0, .int .i64 0] 49) := Lib.hid (by rw [← Hw4.out, ← Hr.out]; exact BoxC.new w3 _ _)
  have b4 : Below w3.heap.size w3 w4 := by rw [← Hw4.out]; exact balloc (Below.refl _ _) _
  have B4 := Lib.hid (bnext B3.out b4)
  have Q4 := Lib.hid (Q3.out.below b4)
  have P4 := Lib.hid (P3.out.below b4)
  have C4 := Lib.hid b4
  clear b4
  rw [Hw4.out, Hr.out]
  have c0 := Q4.out.cell 0 rfl
  have c1 := Q4.out.cell 1 rfl
  have c2 := Q4.out.cell 2 rfl
  have c3 := Q4.out.cell 3 rfl
  have c4 := Q4.out.cell 4 rfl
  have c5 := Q4.out.cell 5 rfl
  go_wp2_with fail
  clear c0 c1 c2 c3 c4 c5
  refine (right_2 w4 dst l off nn data).mono ?_
  rintro e w5 ⟨rfl, hb⟩
  have B5 := Lib.hid (bnext B4.out hb)
  have Q5 := Lib.hid (Q4.out.below hb)
  have P5 := Lib.hid (P4.out.below hb)
  have R5 := Lib.hid (R4.out.below hb)
  have C5 := Lib.hid (bnext C4.out hb)
  clear hb
  have c0 := Q5.out.cell 0 rfl
  have c1 := Q5.out.cell 1 rfl
  have c2 := Q5.out.cell 2 rfl
  have c3 := Q5.out.cell 3 rfl
  have c4 := Q5.out.cell 4 rfl
  have c5 := Q5.out.cell 5 rfl
  go_wp2_with fail
  clear c0 c1 c2 c3 c4 c5
  refine (many_2 w5 dst l off nn data).mono ?_
  rintro e w6 ⟨rfl, hb⟩
  have B6 := Lib.hid (bnext B5.out hb)
  have P6 := Lib.hid (P5.out.below hb)
  have R6 := Lib.hid (R5.out.below hb)
  have C6 := Lib.hid (bnext C5.out hb)
  clear hb
  have z0 := P6.out.cell 0 rfl
  have f0 := P6.out.free 0
  have z1 := P6.out.cell 1 rfl
  have f1 := P6.out.free 1
  have z2 := P6.out.cell 2 rfl
  have f2 := P6.out.free 2
  have z3 := P6.out.cell 3 rfl
  have f3 := P6.out.free 3
  have z4 := P6.out.cell 4 rfl
  have f4 := P6.out.free 4
  have z5 := P6.out.cell 5 rfl
  have f5 := P6.out.free 5
  have z6 := P6.out.cell 6 rfl
  have f6 := P6.out.free 6
  have z7 := P6.out.cell 7 rfl
  have f7 := P6.out.free 7
  have z8 := P6.out.cell 8 rfl
  have f8 := P6.out.free 8
  have v0 := R6.out.cell 0 rfl
  have v1 := R6.out.cell 1 rfl
  have v2 := R6.out.cell 2 rfl
  have v3 := R6.out.cell 3 rfl
  have v4 := R6.out.cell 4 rfl
  have v5 := R6.out.cell 5 rfl
  have v6 := R6.out.cell 6 rfl
  have v7 := R6.out.cell 7 rfl
  have v8 := R6.out.cell 8 rfl
  have PZ := Lib.hid (setA_box P6.out (⟨2, l, dst, off, nn, data⟩ : Cal) (.slice A k c) (.slice none 0 0) 0)
  have BZ : Hid (Below w.heap.size w (setA w6 p (⟨2, l, dst, off, nn, data⟩ : Cal) (.slice A k c) (.slice none 0 0) 0)) := Lib.hid (bmod B6.out (setA_mod w6 p (⟨2, l, dst, off, nn, data⟩ : Cal) (.slice A k c) (.slice none 0 0) 0) (by have := Hp.out; omega))
  have GZ : Hid (IsG (setA w6 p (⟨2, l, dst, off, nn, data⟩ : Cal) (.slice A k c) (.slice none 0 0) 0) 1 encT A k X) := Lib.hid ((HG.out.below C6.out).later (setA_mod w6 p (⟨2, l, dst, off, nn, data⟩ : Cal) (.slice A k c) (.slice none 0 0) 0) (fun g off e _ e2 => by have h1 := HN.out g off e; have h2 : g = p := e2; have h3 := P2.out.lt; omega))
  go_wp2
  obtain ⟨wz, Hwz⟩ : ∃ u, Hid (setA w6 p (⟨2, l, dst, off, nn, data⟩ : Cal) (.slice A k c) (.slice none 0 0) 0 = u) := ⟨_, Lib.hid rfl⟩
  rw [Hwz.out] at PZ BZ GZ
  rw [show ((((((((w6.setCell ⟨p, 0, none⟩ (.int .i64 2)).setCell ⟨p, 1, none⟩ (.string (str l))).setCell ⟨p, 2, none⟩ (.string (str dst))).setCell ⟨p, 3, none⟩ (.int .i64 off)).setCell ⟨p, 4, none⟩ (.int .i64 nn)).setCell ⟨p, 5, none⟩ (.string (str data))).setCell ⟨p, 6, none⟩ (.slice A k c)).setCell ⟨p, 7, none⟩ (.slice none 0 0)).setCell ⟨p, 8, none⟩ (.int .i64 0) = wz from Hwz.out]
  have s0 := PZ.out.cell 0 rfl
  have s1 := PZ.out.cell 1 rfl
  have s2 := PZ.out.cell 2 rfl
  have s3 := PZ.out.cell 3 rfl
  have s4 := PZ.out.cell 4 rfl
  have s5 := PZ.out.cell 5 rfl
  have s6 := PZ.out.cell 6 rfl
  have s7 := PZ.out.cell 7 rfl
  have s8 := PZ.out.cell 8 rfl
  exact bodyPost_ret (v := .tuple #[askV (⟨2, l, dst, off, nn, data⟩ : Cal) (.slice A k c) (.slice none 0 0) 0, .int .i64 0]) (by simp [results, Tryz.results13, go_sem, s0, s1, s2, s3, s4, s5, s6, s7, s8]) rfl ⟨A, k, c, rfl, HK.out.1, HK.out.2, GZ.out, (fun g off e => Nat.le_trans B2.out.size (HN.out g off e)), BZ.out⟩
set_option maxRecDepth 100000 in
set_option maxHeartbeats 4000000 in
theorem ask_3 (X : List (List UInt8)) (hX : PathOk X) (hl : (pathOf X).length ≤ 1000000) (hle : 1 ≤ X.length) (Z : List (List UInt8)) (hZ : PathOk Z) (hlz : (pathOf Z).length ≤ 1000000) (hlez : 1 ≤ Z.length) (off nn : Int) (data : List UInt8)  (w : World) (hm : Mx w) :
    Calls Tryz.prog 13 #[calV ⟨3, pathOf X, pathOf Z, off, nn, data⟩] w fun e w' => ∃ A k c B m d, e = .returned (.tuple #[askV ⟨3, pathOf X, pathOf Z, off, nn, data⟩ (.slice A k c) (.slice B m d) 0, .int .i64 0]) ∧ k = X.length ∧ k ≤ c ∧ IsG w' 1 encT A k X ∧ (∀ g off, A = some ⟨g, off, none⟩ → w.heap.size ≤ g) ∧ m = Z.length ∧ m ≤ d ∧ IsG w' 1 encT B m Z ∧ (∀ g off, B = some ⟨g, off, none⟩ → w.heap.size ≤ g) ∧ Below w.heap.size w w' := by
  obtain ⟨l, Hl⟩ : ∃ r, Hid (pathOf X = r) := ⟨_, Lib.hid rfl⟩
  obtain ⟨l2, Hl2⟩ : ∃ r, Hid (pathOf Z = r) := ⟨_, Lib.hid rfl⟩
  have hP := fun (u : World) (hu : Mx u) => paths_3 X hX hl hle Z hZ hlz hlez off nn data u hu
  rw [Hl.out, Hl2.out]
  simp only [Hl.out, Hl2.out] at hP
  have HP := Lib.hid hP
  clear hP
  go_enter Tryz.func13, Tryz.ntmps13
  go_upto_region 1 with (fail)
  obtain ⟨w1, Hw1⟩ : ∃ u, Hid (w.alloc (.cells #[.int .i64 3, .string (str l), .string (str l2), .int .i64 off, .int .i64 nn, .string (str data)] 32) = u) := ⟨_, Lib.hid rfl⟩
  obtain ⟨w2, Hw2⟩ : ∃ u, Hid (w1.alloc (.cells ask0 49) = u) := ⟨_, Lib.hid rfl⟩
  obtain ⟨q, Hq⟩ : ∃ u, Hid (w.heap.size = u) := ⟨_, Lib.hid rfl⟩
  obtain ⟨p, Hp⟩ : ∃ u, Hid (w.heap.size + 1 = u) := ⟨_, Lib.hid rfl⟩
  have e1 : w1.heap.size = p := by rw [← Hw1.out, ← Hp.out]; simp
  have b1 : Below w.heap.size w w1 := by rw [← Hw1.out]; exact balloc (Below.refl _ _) _
  have b2 : Below w1.heap.size w1 w2 := by rw [← Hw2.out]; exact balloc (Below.refl _ _) _
  have Q2 : Hid (BoxC w2 q #[.int .i64 3, .string (str l), .string (str l2), .int .i64 off, .int .i64 nn, .string (str data)] 32) := Lib.hid (by
    have h : BoxC w1 q #[.int .i64 3, .string (str l), .string (str l2), .int .i64 off, .int .i64 nn, .string (str data)] 32 := by rw [← Hw1.out, ← Hq.out]; exact BoxC.new w _ _
    exact h.below b2)
  have P2 : Hid (BoxC w2 p ask0 49) := Lib.hid (by rw [← Hw2.out, ← e1]; exact BoxC.new w1 _ _)
  have B2 : Hid (Below w.heap.size w w2) := Lib.hid (bnext b1 b2)
  clear b1 b2 e1
  rw [Hw1.out, Hw2.out, Hp.out, Hq.out]
  have c0 := Q2.out.cell 0 rfl
  have c1 := Q2.out.cell 1 rfl
  have c2 := Q2.out.cell 2 rfl
  have c3 := Q2.out.cell 3 rfl
  have c4 := Q2.out.cell 4 rfl
  have c5 := Q2.out.cell 5 rfl
  go_wp2_with fail
  clear c0 c1 c2 c3 c4 c5
  refine (HP.out w2 (hm.below B2.out)).mono ?_
  rintro e w3 ⟨A, k, c, B, m, d, rfl, hkX, hkc, hG, hnw, hmZ, hmd, hG2, hnw2, hb⟩
  have B3 := Lib.hid (bnext B2.out hb)
  have Q3 := Lib.hid (Q2.out.below hb)
  have P3 := Lib.hid (P2.out.below hb)
  have HG := Lib.hid hG
  have HK := Lib.hid (And.intro hkX hkc)
  have HN : Hid (∀ g off, A = some ⟨g, off, none⟩ → w2.heap.size ≤ g) := Lib.hid hnw
  clear hG hkX hkc hnw
  have HG2 := Lib.hid hG2
  have HK2 := Lib.hid (And.intro hmZ hmd)
  have HN2 : Hid (∀ g off, B = some ⟨g, off, none⟩ → w2.heap.size ≤ g) := Lib.hid hnw2
  clear hG2 hmZ hmd hnw2
  clear hb
  go_upto_region 2 with (fail)
  obtain ⟨w4, Hw4⟩ : ∃ u, Hid (w3.alloc (.cells #[.int .i64 3, .string (str l), .string (str l2), .int .i64 off, .int .i64 nn, .string (str data), .slice A k c, .slice B m d, .int .i64 0] 49) = u) := ⟨_, Lib.hid rfl⟩
  obtain ⟨r, Hr⟩ : ∃ u, Hid (w3.heap.size = u) := ⟨_, Lib.hid rfl⟩
  have R4 : Hid (BoxC w4 r #[.int .i64 3, .string (str l), .string (str l2), .int .i64 off, .int .i64 nn, .string (str data), .slice A k c, .slice B m d, .int .i64 0] 49) := Lib.hid (by rw [← Hw4.out, ← Hr.out]; exact BoxC.new w3 _ _)
  have b4 : Below w3.heap.size w3 w4 := by rw [← Hw4.out]; exact balloc (Below.refl _ _) _
  have B4 := Lib.hid (bnext B3.out b4)
  have Q4 := Lib.hid (Q3.out.below b4)
  have P4 := Lib.hid (P3.out.below b4)
  have C4 := Lib.hid b4
  clear b4
  rw [Hw4.out, Hr.out]
  have c0 := Q4.out.cell 0 rfl
  have c1 := Q4.out.cell 1 rfl
  have c2 := Q4.out.cell 2 rfl
  have c3 := Q4.out.cell 3 rfl
  have c4 := Q4.out.cell 4 rfl
  have c5 := Q4.out.cell 5 rfl
  go_wp2_with fail
  clear c0 c1 c2 c3 c4 c5
  refine (right_3 w4 l2 l off nn data).mono ?_
  rintro e w5 ⟨rfl, hb⟩
  have B5 := Lib.hid (bnext B4.out hb)
  have Q5 := Lib.hid (Q4.out.below hb)
  have P5 := Lib.hid (P4.out.below hb)
  have R5 := Lib.hid (R4.out.below hb)
  have C5 := Lib.hid (bnext C4.out hb)
  clear hb
  have c0 := Q5.out.cell 0 rfl
  have c1 := Q5.out.cell 1 rfl
  have c2 := Q5.out.cell 2 rfl
  have c3 := Q5.out.cell 3 rfl
  have c4 := Q5.out.cell 4 rfl
  have c5 := Q5.out.cell 5 rfl
  go_wp2_with fail
  clear c0 c1 c2 c3 c4 c5
  refine (many_3 w5 l2 l off nn data).mono ?_
  rintro e w6 ⟨rfl, hb⟩
  have B6 := Lib.hid (bnext B5.out hb)
  have P6 := Lib.hid (P5.out.below hb)
  have R6 := Lib.hid (R5.out.below hb)
  have C6 := Lib.hid (bnext C5.out hb)
  clear hb
  have z0 := P6.out.cell 0 rfl
  have f0 := P6.out.free 0
  have z1 := P6.out.cell 1 rfl
  have f1 := P6.out.free 1
  have z2 := P6.out.cell 2 rfl
  have f2 := P6.out.free 2
  have z3 := P6.out.cell 3 rfl
  have f3 := P6.out.free 3
  have z4 := P6.out.cell 4 rfl
  have f4 := P6.out.free 4
  have z5 := P6.out.cell 5 rfl
  have f5 := P6.out.free 5
  have z6 := P6.out.cell 6 rfl
  have f6 := P6.out.free 6
  have z7 := P6.out.cell 7 rfl
  have f7 := P6.out.free 7
  have z8 := P6.out.cell 8 rfl
  have f8 := P6.out.free 8
  have v0 := R6.out.cell 0 rfl
  have v1 := R6.out.cell 1 rfl
  have v2 := R6.out.cell 2 rfl
  have v3 := R6.out.cell 3 rfl
  have v4 := R6.out.cell 4 rfl
  have v5 := R6.out.cell 5 rfl
  have v6 := R6.out.cell 6 rfl
  have v7 := R6.out.cell 7 rfl
  have v8 := R6.out.cell 8 rfl
  have PZ := Lib.hid (setA_box P6.out (⟨3, l, l2, off, nn, data⟩ : Cal) (.slice A k c) (.slice B m d) 0)
  have BZ : Hid (Below w.heap.size w (setA w6 p (⟨3, l, l2, off, nn, data⟩ : Cal) (.slice A k c) (.slice B m d) 0)) := Lib.hid (bmod B6.out (setA_mod w6 p (⟨3, l, l2, off, nn, data⟩ : Cal) (.slice A k c) (.slice B m d) 0) (by have := Hp.out; omega))
  have GZ : Hid (IsG (setA w6 p (⟨3, l, l2, off, nn, data⟩ : Cal) (.slice A k c) (.slice B m d) 0) 1 encT A k X) := Lib.hid ((HG.out.below C6.out).later (setA_mod w6 p (⟨3, l, l2, off, nn, data⟩ : Cal) (.slice A k c) (.slice B m d) 0) (fun g off e _ e2 => by have h1 := HN.out g off e; have h2 : g = p := e2; have h3 := P2.out.lt; omega))
  have GY : Hid (IsG (setA w6 p (⟨3, l, l2, off, nn, data⟩ : Cal) (.slice A k c) (.slice B m d) 0) 1 encT B m Z) := Lib.hid ((HG2.out.below C6.out).later (setA_mod w6 p (⟨3, l, l2, off, nn, data⟩ : Cal) (.slice A k c) (.slice B m d) 0) (fun g off e _ e2 => by have h1 := HN2.out g off e; have h2 : g = p := e2; have h3 := P2.out.lt; omega))
  go_wp2
  obtain ⟨wz, Hwz⟩ : ∃ u, Hid (setA w6 p (⟨3, l, l2, off, nn, data⟩ : Cal) (.slice A k c) (.slice B m d) 0 = u) := ⟨_, Lib.hid rfl⟩
  rw [Hwz.out] at PZ BZ GZ GY
  rw [show ((((((((w6.setCell ⟨p, 0, none⟩ (.int .i64 3)).setCell ⟨p, 1, none⟩ (.string (str l))).setCell ⟨p, 2, none⟩ (.string (str l2))).setCell ⟨p, 3, none⟩ (.int .i64 off)).setCell ⟨p, 4, none⟩ (.int .i64 nn)).setCell ⟨p, 5, none⟩ (.string (str data))).setCell ⟨p, 6, none⟩ (.slice A k c)).setCell ⟨p, 7, none⟩ (.slice B m d)).setCell ⟨p, 8, none⟩ (.int .i64 0) = wz from Hwz.out]
  have s0 := PZ.out.cell 0 rfl
  have s1 := PZ.out.cell 1 rfl
  have s2 := PZ.out.cell 2 rfl
  have s3 := PZ.out.cell 3 rfl
  have s4 := PZ.out.cell 4 rfl
  have s5 := PZ.out.cell 5 rfl
  have s6 := PZ.out.cell 6 rfl
  have s7 := PZ.out.cell 7 rfl
  have s8 := PZ.out.cell 8 rfl
  exact bodyPost_ret (v := .tuple #[askV (⟨3, l, l2, off, nn, data⟩ : Cal) (.slice A k c) (.slice B m d) 0, .int .i64 0]) (by simp [results, Tryz.results13, go_sem, s0, s1, s2, s3, s4, s5, s6, s7, s8]) rfl ⟨A, k, c, B, m, d, rfl, HK.out.1, HK.out.2, GZ.out, (fun g off e => Nat.le_trans B2.out.size (HN.out g off e)), HK2.out.1, HK2.out.2, GY.out, (fun g off e => Nat.le_trans B2.out.size (HN2.out g off e)), BZ.out⟩
set_option maxRecDepth 100000 in
set_option maxHeartbeats 4000000 in
theorem ask_4 (X : List (List UInt8)) (hX : PathOk X) (hl : (pathOf X).length ≤ 1000000) (hle : 1 ≤ X.length) (off nn : Int) (data : List UInt8) (dst : List UInt8)  (w : World) (hm : Mx w) :
    Calls Tryz.prog 13 #[calV ⟨4, pathOf X, dst, off, nn, data⟩] w fun e w' => ∃ A k c, e = .returned (.tuple #[askV ⟨4, pathOf X, dst, off, nn, data⟩ (.slice A k c) (.slice none 0 0) 0, .int .i64 0]) ∧ k = X.length ∧ k ≤ c ∧ IsG w' 1 encT A k X ∧ (∀ g off, A = some ⟨g, off, none⟩ → w.heap.size ≤ g) ∧ Below w.heap.size w w' := by
  obtain ⟨l, Hl⟩ : ∃ r, Hid (pathOf X = r) := ⟨_, Lib.hid rfl⟩
  have hP := fun (u : World) (hu : Mx u) => paths_4 X hX hl hle off nn data dst u hu
  rw [Hl.out]
  simp only [Hl.out] at hP
  have HP := Lib.hid hP
  clear hP
  go_enter Tryz.func13, Tryz.ntmps13
  go_upto_region 1 with (fail)
  obtain ⟨w1, Hw1⟩ : ∃ u, Hid (w.alloc (.cells #[.int .i64 4, .string (str l), .string (str dst), .int .i64 off, .int .i64 nn, .string (str data)] 32) = u) := ⟨_, Lib.hid rfl⟩
  obtain ⟨w2, Hw2⟩ : ∃ u, Hid (w1.alloc (.cells ask0 49) = u) := ⟨_, Lib.hid rfl⟩
  obtain ⟨q, Hq⟩ : ∃ u, Hid (w.heap.size = u) := ⟨_, Lib.hid rfl⟩
  obtain ⟨p, Hp⟩ : ∃ u, Hid (w.heap.size + 1 = u) := ⟨_, Lib.hid rfl⟩
  have e1 : w1.heap.size = p := by rw [← Hw1.out, ← Hp.out]; simp
  have b1 : Below w.heap.size w w1 := by rw [← Hw1.out]; exact balloc (Below.refl _ _) _
  have b2 : Below w1.heap.size w1 w2 := by rw [← Hw2.out]; exact balloc (Below.refl _ _) _
  have Q2 : Hid (BoxC w2 q #[.int .i64 4, .string (str l), .string (str dst), .int .i64 off, .int .i64 nn, .string (str data)] 32) := Lib.hid (by
    have h : BoxC w1 q #[.int .i64 4, .string (str l), .string (str dst), .int .i64 off, .int .i64 nn, .string (str data)] 32 := by rw [← Hw1.out, ← Hq.out]; exact BoxC.new w _ _
    exact h.below b2)
  have P2 : Hid (BoxC w2 p ask0 49) := Lib.hid (by rw [← Hw2.out, ← e1]; exact BoxC.new w1 _ _)
  have B2 : Hid (Below w.heap.size w w2) := Lib.hid (bnext b1 b2)
  clear b1 b2 e1
  rw [Hw1.out, Hw2.out, Hp.out, Hq.out]
  have c0 := Q2.out.cell 0 rfl
  have c1 := Q2.out.cell 1 rfl
  have c2 := Q2.out.cell 2 rfl
  have c3 := Q2.out.cell 3 rfl
  have c4 := Q2.out.cell 4 rfl
  have c5 := Q2.out.cell 5 rfl
  go_wp2_with fail
  clear c0 c1 c2 c3 c4 c5
  refine (HP.out w2 (hm.below B2.out)).mono ?_
  rintro e w3 ⟨A, k, c, rfl, hkX, hkc, hG, hnw, hb⟩
  have B3 := Lib.hid (bnext B2.out hb)
  have Q3 := Lib.hid (Q2.out.below hb)
  have P3 := Lib.hid (P2.out.below hb)
  have HG := Lib.hid hG
  have HK := Lib.hid (And.intro hkX hkc)
  have HN : Hid (∀ g off, A = some ⟨g, off, none⟩ → w2.heap.size ≤ g) := Lib.hid hnw
  clear hG hkX hkc hnw
  clear hb
  go_upto_region 2 with (fail)
  obtain ⟨w4, Hw4⟩ : ∃ u, Hid (w3.alloc (.cells #[.int .i64 4, .string (str l), .string (str dst), .int .i64 off, .int .i64 nn, .string (str data), .slice A k c, .slice none 0 0, .int .i64 0] 49) = u) := ⟨_, Lib.hid rfl⟩
  obtain ⟨r, Hr⟩ : ∃ u, Hid (w3.heap.size = u) := ⟨_, Lib.hid rfl⟩
  have R4 : Hid (BoxC w4 r #[.int .i64 4, .string (str l), .string (str dst), .int .i64 off, .int .i64 nn, .string (str data), .slice A k c, .slice none 0 0, .int .i64 0] 49) := Lib.hid (by rw [← Hw4.out, ← Hr.out]; exact BoxC.new w3 _ _)
  have b4 : Below w3.heap.size w3 w4 := by rw [← Hw4.out]; exact balloc (Below.refl _ _) _
  have B4 := Lib.hid (bnext B3.out b4)
  have Q4 := Lib.hid (Q3.out.below b4)
  have P4 := Lib.hid (P3.out.below b4)
  have C4 := Lib.hid b4
  clear b4
  rw [Hw4.out, Hr.out]
  have c0 := Q4.out.cell 0 rfl
  have c1 := Q4.out.cell 1 rfl
  have c2 := Q4.out.cell 2 rfl
  have c3 := Q4.out.cell 3 rfl
  have c4 := Q4.out.cell 4 rfl
  have c5 := Q4.out.cell 5 rfl
  go_wp2_with fail
  clear c0 c1 c2 c3 c4 c5
  refine (right_4 w4 dst l off nn data).mono ?_
  rintro e w5 ⟨rfl, hb⟩
  have B5 := Lib.hid (bnext B4.out hb)
  have Q5 := Lib.hid (Q4.out.below hb)
  have P5 := Lib.hid (P4.out.below hb)
  have R5 := Lib.hid (R4.out.below hb)
  have C5 := Lib.hid (bnext C4.out hb)
  clear hb
  have c0 := Q5.out.cell 0 rfl
  have c1 := Q5.out.cell 1 rfl
  have c2 := Q5.out.cell 2 rfl
  have c3 := Q5.out.cell 3 rfl
  have c4 := Q5.out.cell 4 rfl
  have c5 := Q5.out.cell 5 rfl
  go_wp2_with fail
  clear c0 c1 c2 c3 c4 c5
  refine (many_4 w5 dst l off nn data).mono ?_
  rintro e w6 ⟨rfl, hb⟩
  have B6 := Lib.hid (bnext B5.out hb)
  have P6 := Lib.hid (P5.out.below hb)
  have R6 := Lib.hid (R5.out.below hb)
  have C6 := Lib.hid (bnext C5.out hb)
  clear hb
  have z0 := P6.out.cell 0 rfl
  have f0 := P6.out.free 0
  have z1 := P6.out.cell 1 rfl
  have f1 := P6.out.free 1
  have z2 := P6.out.cell 2 rfl
  have f2 := P6.out.free 2
  have z3 := P6.out.cell 3 rfl
  have f3 := P6.out.free 3
  have z4 := P6.out.cell 4 rfl
  have f4 := P6.out.free 4
  have z5 := P6.out.cell 5 rfl
  have f5 := P6.out.free 5
  have z6 := P6.out.cell 6 rfl
  have f6 := P6.out.free 6
  have z7 := P6.out.cell 7 rfl
  have f7 := P6.out.free 7
  have z8 := P6.out.cell 8 rfl
  have f8 := P6.out.free 8
  have v0 := R6.out.cell 0 rfl
  have v1 := R6.out.cell 1 rfl
  have v2 := R6.out.cell 2 rfl
  have v3 := R6.out.cell 3 rfl
  have v4 := R6.out.cell 4 rfl
  have v5 := R6.out.cell 5 rfl
  have v6 := R6.out.cell 6 rfl
  have v7 := R6.out.cell 7 rfl
  have v8 := R6.out.cell 8 rfl
  have PZ := Lib.hid (setA_box P6.out (⟨4, l, dst, off, nn, data⟩ : Cal) (.slice A k c) (.slice none 0 0) 0)
  have BZ : Hid (Below w.heap.size w (setA w6 p (⟨4, l, dst, off, nn, data⟩ : Cal) (.slice A k c) (.slice none 0 0) 0)) := Lib.hid (bmod B6.out (setA_mod w6 p (⟨4, l, dst, off, nn, data⟩ : Cal) (.slice A k c) (.slice none 0 0) 0) (by have := Hp.out; omega))
  have GZ : Hid (IsG (setA w6 p (⟨4, l, dst, off, nn, data⟩ : Cal) (.slice A k c) (.slice none 0 0) 0) 1 encT A k X) := Lib.hid ((HG.out.below C6.out).later (setA_mod w6 p (⟨4, l, dst, off, nn, data⟩ : Cal) (.slice A k c) (.slice none 0 0) 0) (fun g off e _ e2 => by have h1 := HN.out g off e; have h2 : g = p := e2; have h3 := P2.out.lt; omega))
  go_wp2
  obtain ⟨wz, Hwz⟩ : ∃ u, Hid (setA w6 p (⟨4, l, dst, off, nn, data⟩ : Cal) (.slice A k c) (.slice none 0 0) 0 = u) := ⟨_, Lib.hid rfl⟩
  rw [Hwz.out] at PZ BZ GZ
  rw [show ((((((((w6.setCell ⟨p, 0, none⟩ (.int .i64 4)).setCell ⟨p, 1, none⟩ (.string (str l))).setCell ⟨p, 2, none⟩ (.string (str dst))).setCell ⟨p, 3, none⟩ (.int .i64 off)).setCell ⟨p, 4, none⟩ (.int .i64 nn)).setCell ⟨p, 5, none⟩ (.string (str data))).setCell ⟨p, 6, none⟩ (.slice A k c)).setCell ⟨p, 7, none⟩ (.slice none 0 0)).setCell ⟨p, 8, none⟩ (.int .i64 0) = wz from Hwz.out]
  have s0 := PZ.out.cell 0 rfl
  have s1 := PZ.out.cell 1 rfl
  have s2 := PZ.out.cell 2 rfl
  have s3 := PZ.out.cell 3 rfl
  have s4 := PZ.out.cell 4 rfl
  have s5 := PZ.out.cell 5 rfl
  have s6 := PZ.out.cell 6 rfl
  have s7 := PZ.out.cell 7 rfl
  have s8 := PZ.out.cell 8 rfl
  exact bodyPost_ret (v := .tuple #[askV (⟨4, l, dst, off, nn, data⟩ : Cal) (.slice A k c) (.slice none 0 0) 0, .int .i64 0]) (by simp [results, Tryz.results13, go_sem, s0, s1, s2, s3, s4, s5, s6, s7, s8]) rfl ⟨A, k, c, rfl, HK.out.1, HK.out.2, GZ.out, (fun g off e => Nat.le_trans B2.out.size (HN.out g off e)), BZ.out⟩
set_option maxRecDepth 100000 in
set_option maxHeartbeats 4000000 in
theorem ask_5 (X : List (List UInt8)) (hX : PathOk X) (hl : (pathOf X).length ≤ 1000000) (hle : 1 ≤ X.length) (Z : List (List UInt8)) (hZ : PathOk Z) (hlz : (pathOf Z).length ≤ 1000000) (hlez : 1 ≤ Z.length) (off nn : Int) (data : List UInt8)  (w : World) (hm : Mx w) :
    Calls Tryz.prog 13 #[calV ⟨5, pathOf X, pathOf Z, off, nn, data⟩] w fun e w' => ∃ A k c B m d, e = .returned (.tuple #[askV ⟨5, pathOf X, pathOf Z, off, nn, data⟩ (.slice A k c) (.slice B m d) 0, .int .i64 0]) ∧ k = X.length ∧ k ≤ c ∧ IsG w' 1 encT A k X ∧ (∀ g off, A = some ⟨g, off, none⟩ → w.heap.size ≤ g) ∧ m = Z.length ∧ m ≤ d ∧ IsG w' 1 encT B m Z ∧ (∀ g off, B = some ⟨g, off, none⟩ → w.heap.size ≤ g) ∧ Below w.heap.size w w' := by
  obtain ⟨l, Hl⟩ : ∃ r, Hid (pathOf X = r) := ⟨_, Lib.hid rfl⟩
  obtain ⟨l2, Hl2⟩ : ∃ r, Hid (pathOf Z = r) := ⟨_, Lib.hid rfl⟩
  have hP := fun (u : World) (hu : Mx u) => paths_5 X hX hl hle Z hZ hlz hlez off nn data u hu
  rw [Hl.out, Hl2.out]
  simp only [Hl.out, Hl2.out] at hP
  have HP := Lib.hid hP
  clear hP
  go_enter Tryz.func13, Tryz.ntmps13
  go_upto_region 1 with (fail)
  obtain ⟨w1, Hw1⟩ : ∃ u, Hid (w.alloc (.cells #[.int .i64 5, .string (str l), .string (str l2), .int .i64 off, .int .i64 nn, .string (str data)] 32) = u) := ⟨_, Lib.hid rfl⟩
  obtain ⟨w2, Hw2⟩ : ∃ u, Hid (w1.alloc (.cells ask0 49) = u) := ⟨_, Lib.hid rfl⟩
  obtain ⟨q, Hq⟩ : ∃ u, Hid (w.heap.size = u) := ⟨_, Lib.hid rfl⟩
  obtain ⟨p, Hp⟩ : ∃ u, Hid (w.heap.size + 1 = u) := ⟨_, Lib.hid rfl⟩
  have e1 : w1.heap.size = p := by rw [← Hw1.out, ← Hp.out]; simp
  have b1 : Below w.heap.size w w1 := by rw [← Hw1.out]; exact balloc (Below.refl _ _) _
  have b2 : Below w1.heap.size w1 w2 := by rw [← Hw2.out]; exact balloc (Below.refl _ _) _
  have Q2 : Hid (BoxC w2 q #[.int .i64 5, .string (str l), .string (str l2), .int .i64 off, .int .i64 nn, .string (str data)] 32) := Lib.hid (by
    have h : BoxC w1 q #[.int .i64 5, .string (str l), .string (str l2), .int .i64 off, .int .i64 nn, .string (str data)] 32 := by rw [← Hw1.out, ← Hq.out]; exact BoxC.new w _ _
    exact h.below b2)
  have P2 : Hid (BoxC w2 p ask0 49) := Lib.hid (by rw [← Hw2.out, ← e1]; exact BoxC.new w1 _ _)
  have B2 : Hid (Below w.heap.size w w2) := Lib.hid (bnext b1 b2)
  clear b1 b2 e1
  rw [Hw1.out, Hw2.out, Hp.out, Hq.out]
  have c0 := Q2.out.cell 0 rfl
  have c1 := Q2.out.cell 1 rfl
  have c2 := Q2.out.cell 2 rfl
  have c3 := Q2.out.cell 3 rfl
  have c4 := Q2.out.cell 4 rfl
  have c5 := Q2.out.cell 5 rfl
  go_wp2_with fail
  clear c0 c1 c2 c3 c4 c5
  refine (HP.out w2 (hm.below B2.out)).mono ?_
  rintro e w3 ⟨A, k, c, B, m, d, rfl, hkX, hkc, hG, hnw, hmZ, hmd, hG2, hnw2, hb⟩
  have B3 := Lib.hid (bnext B2.out hb)
  have Q3 := Lib.hid (Q2.out.below hb)
  have P3 := Lib.hid (P2.out.below hb)
  have HG := Lib.hid hG
  have HK := Lib.hid (And.intro hkX hkc)
  have HN : Hid (∀ g off, A = some ⟨g, off, none⟩ → w2.heap.size ≤ g) := Lib.hid hnw
  clear hG hkX hkc hnw
  have HG2 := Lib.hid hG2
  have HK2 := Lib.hid (And.intro hmZ hmd)
  have HN2 : Hid (∀ g off, B = some ⟨g, off, none⟩ → w2.heap.size ≤ g) := Lib.hid hnw2
  clear hG2 hmZ hmd hnw2
  clear hb
  go_upto_region 2 with (fail)
  obtain ⟨w4, Hw4⟩ : ∃ u, Hid (w3.alloc (.cells #[.int .i64 5, .string (str l), .string (str l2), .int .i64 off, .int .i64 nn, .string (str data), .slice A k c, .slice B m d, .int .i64 0] 49) = u) := ⟨_, Lib.hid rfl⟩
  obtain ⟨r, Hr⟩ : ∃ u, Hid (w3.heap.size = u) := ⟨_, Lib.hid rfl⟩
  have R4 : Hid (BoxC w4 r #[.int .i64 5, .string (str l), .string (str l2), .int .i64 off, .int .i64 nn, .string (str data), .slice A k c, .slice B m d, .int .i64 0] 49) := Lib.hid (by rw [← Hw4.out, ← Hr.out]; exact BoxC.new w3 _ _)
  have b4 : Below w3.heap.size w3 w4 := by rw [← Hw4.out]; exact balloc (Below.refl _ _) _
  have B4 := Lib.hid (bnext B3.out b4)
  have Q4 := Lib.hid (Q3.out.below b4)
  have P4 := Lib.hid (P3.out.below b4)
  have C4 := Lib.hid b4
  clear b4
  rw [Hw4.out, Hr.out]
  have c0 := Q4.out.cell 0 rfl
  have c1 := Q4.out.cell 1 rfl
  have c2 := Q4.out.cell 2 rfl
  have c3 := Q4.out.cell 3 rfl
  have c4 := Q4.out.cell 4 rfl
  have c5 := Q4.out.cell 5 rfl
  go_wp2_with fail
  clear c0 c1 c2 c3 c4 c5
  refine (right_5 w4 l2 l off nn data).mono ?_
  rintro e w5 ⟨rfl, hb⟩
  have B5 := Lib.hid (bnext B4.out hb)
  have Q5 := Lib.hid (Q4.out.below hb)
  have P5 := Lib.hid (P4.out.below hb)
  have R5 := Lib.hid (R4.out.below hb)
  have C5 := Lib.hid (bnext C4.out hb)
  clear hb
  have c0 := Q5.out.cell 0 rfl
  have c1 := Q5.out.cell 1 rfl
  have c2 := Q5.out.cell 2 rfl
  have c3 := Q5.out.cell 3 rfl
  have c4 := Q5.out.cell 4 rfl
  have c5 := Q5.out.cell 5 rfl
  go_wp2_with fail
  clear c0 c1 c2 c3 c4 c5
  refine (many_5 w5 l2 l off nn data).mono ?_
  rintro e w6 ⟨rfl, hb⟩
  have B6 := Lib.hid (bnext B5.out hb)
  have P6 := Lib.hid (P5.out.below hb)
  have R6 := Lib.hid (R5.out.below hb)
  have C6 := Lib.hid (bnext C5.out hb)
  clear hb
  have z0 := P6.out.cell 0 rfl
  have f0 := P6.out.free 0
  have z1 := P6.out.cell 1 rfl
  have f1 := P6.out.free 1
  have z2 := P6.out.cell 2 rfl
  have f2 := P6.out.free 2
  have z3 := P6.out.cell 3 rfl
  have f3 := P6.out.free 3
  have z4 := P6.out.cell 4 rfl
  have f4 := P6.out.free 4
  have z5 := P6.out.cell 5 rfl
  have f5 := P6.out.free 5
  have z6 := P6.out.cell 6 rfl
  have f6 := P6.out.free 6
  have z7 := P6.out.cell 7 rfl
  have f7 := P6.out.free 7
  have z8 := P6.out.cell 8 rfl
  have f8 := P6.out.free 8
  have v0 := R6.out.cell 0 rfl
  have v1 := R6.out.cell 1 rfl
  have v2 := R6.out.cell 2 rfl
  have v3 := R6.out.cell 3 rfl
  have v4 := R6.out.cell 4 rfl
  have v5 := R6.out.cell 5 rfl
  have v6 := R6.out.cell 6 rfl
  have v7 := R6.out.cell 7 rfl
  have v8 := R6.out.cell 8 rfl
  have PZ := Lib.hid (setA_box P6.out (⟨5, l, l2, off, nn, data⟩ : Cal) (.slice A k c) (.slice B m d) 0)
  have BZ : Hid (Below w.heap.size w (setA w6 p (⟨5, l, l2, off, nn, data⟩ : Cal) (.slice A k c) (.slice B m d) 0)) := Lib.hid (bmod B6.out (setA_mod w6 p (⟨5, l, l2, off, nn, data⟩ : Cal) (.slice A k c) (.slice B m d) 0) (by have := Hp.out; omega))
  have GZ : Hid (IsG (setA w6 p (⟨5, l, l2, off, nn, data⟩ : Cal) (.slice A k c) (.slice B m d) 0) 1 encT A k X) := Lib.hid ((HG.out.below C6.out).later (setA_mod w6 p (⟨5, l, l2, off, nn, data⟩ : Cal) (.slice A k c) (.slice B m d) 0) (fun g off e _ e2 => by have h1 := HN.out g off e; have h2 : g = p := e2; have h3 := P2.out.lt; omega))
  have GY : Hid (IsG (setA w6 p (⟨5, l, l2, off, nn, data⟩ : Cal) (.slice A k c) (.slice B m d) 0) 1 encT B m Z) := Lib.hid ((HG2.out.below C6.out).later (setA_mod w6 p (⟨5, l, l2, off, nn, data⟩ : Cal) (.slice A k c) (.slice B m d) 0) (fun g off e _ e2 => by have h1 := HN2.out g off e; have h2 : g = p := e2; have h3 := P2.out.lt; omega))
  go_wp2
  obtain ⟨wz, Hwz⟩ : ∃ u, Hid (setA w6 p (⟨5, l, l2, off, nn, data⟩ : Cal) (.slice A k c) (.slice B m d) 0 = u) := ⟨_, Lib.hid rfl⟩
  rw [Hwz.out] at PZ BZ GZ GY
  rw [show ((((((((w6.setCell ⟨p, 0, none⟩ (.int .i64 5)).setCell ⟨p, 1, none⟩ (.string (str l))).setCell ⟨p, 2, none⟩ (.string (str l2))).setCell ⟨p, 3, none⟩ (.int .i64 off)).setCell ⟨p, 4, none⟩ (.int .i64 nn)).setCell ⟨p, 5, none⟩ (.string (str data))).setCell ⟨p, 6, none⟩ (.slice A k c)).setCell ⟨p, 7, none⟩ (.slice B m d)).setCell ⟨p, 8, none⟩ (.int .i64 0) = wz from Hwz.out]
  have s0 := PZ.out.cell 0 rfl
  have s1 := PZ.out.cell 1 rfl
  have s2 := PZ.out.cell 2 rfl
  have s3 := PZ.out.cell 3 rfl
  have s4 := PZ.out.cell 4 rfl
  have s5 := PZ.out.cell 5 rfl
  have s6 := PZ.out.cell 6 rfl
  have s7 := PZ.out.cell 7 rfl
  have s8 := PZ.out.cell 8 rfl
  exact bodyPost_ret (v := .tuple #[askV (⟨5, l, l2, off, nn, data⟩ : Cal) (.slice A k c) (.slice B m d) 0, .int .i64 0]) (by simp [results, Tryz.results13, go_sem, s0, s1, s2, s3, s4, s5, s6, s7, s8]) rfl ⟨A, k, c, B, m, d, rfl, HK.out.1, HK.out.2, GZ.out, (fun g off e => Nat.le_trans B2.out.size (HN.out g off e)), HK2.out.1, HK2.out.2, GY.out, (fun g off e => Nat.le_trans B2.out.size (HN2.out g off e)), BZ.out⟩
set_option maxRecDepth 100000 in
set_option maxHeartbeats 4000000 in
theorem ask_6 (X : List (List UInt8)) (hX : PathOk X) (hl : (pathOf X).length ≤ 1000000) (hle : 0 ≤ X.length) (off nn : Int) (data : List UInt8) (dst : List UInt8)  (h0 : 0 ≤ off) (h1 : 0 ≤ nn) (h2 : nn ≤ 6144) (w : World) (hm : Mx w) :
    Calls Tryz.prog 13 #[calV ⟨6, pathOf X, dst, off, nn, data⟩] w fun e w' => ∃ A k c, e = .returned (.tuple #[askV ⟨6, pathOf X, dst, off, nn, data⟩ (.slice A k c) (.slice none 0 0) 0, .int .i64 0]) ∧ k = X.length ∧ k ≤ c ∧ IsG w' 1 encT A k X ∧ (∀ g off, A = some ⟨g, off, none⟩ → w.heap.size ≤ g) ∧ Below w.heap.size w w' := by
  obtain ⟨l, Hl⟩ : ∃ r, Hid (pathOf X = r) := ⟨_, Lib.hid rfl⟩
  have hP := fun (u : World) (hu : Mx u) => paths_6 X hX hl hle off nn data dst u hu
  rw [Hl.out]
  simp only [Hl.out] at hP
  have HP := Lib.hid hP
  clear hP
  go_enter Tryz.func13, Tryz.ntmps13
  go_upto_region 1 with (fail)
  obtain ⟨w1, Hw1⟩ : ∃ u, Hid (w.alloc (.cells #[.int .i64 6, .string (str l), .string (str dst), .int .i64 off, .int .i64 nn, .string (str data)] 32) = u) := ⟨_, Lib.hid rfl⟩
  obtain ⟨w2, Hw2⟩ : ∃ u, Hid (w1.alloc (.cells ask0 49) = u) := ⟨_, Lib.hid rfl⟩
  obtain ⟨q, Hq⟩ : ∃ u, Hid (w.heap.size = u) := ⟨_, Lib.hid rfl⟩
  obtain ⟨p, Hp⟩ : ∃ u, Hid (w.heap.size + 1 = u) := ⟨_, Lib.hid rfl⟩
  have e1 : w1.heap.size = p := by rw [← Hw1.out, ← Hp.out]; simp
  have b1 : Below w.heap.size w w1 := by rw [← Hw1.out]; exact balloc (Below.refl _ _) _
  have b2 : Below w1.heap.size w1 w2 := by rw [← Hw2.out]; exact balloc (Below.refl _ _) _
  have Q2 : Hid (BoxC w2 q #[.int .i64 6, .string (str l), .string (str dst), .int .i64 off, .int .i64 nn, .string (str data)] 32) := Lib.hid (by
    have h : BoxC w1 q #[.int .i64 6, .string (str l), .string (str dst), .int .i64 off, .int .i64 nn, .string (str data)] 32 := by rw [← Hw1.out, ← Hq.out]; exact BoxC.new w _ _
    exact h.below b2)
  have P2 : Hid (BoxC w2 p ask0 49) := Lib.hid (by rw [← Hw2.out, ← e1]; exact BoxC.new w1 _ _)
  have B2 : Hid (Below w.heap.size w w2) := Lib.hid (bnext b1 b2)
  clear b1 b2 e1
  rw [Hw1.out, Hw2.out, Hp.out, Hq.out]
  have c0 := Q2.out.cell 0 rfl
  have c1 := Q2.out.cell 1 rfl
  have c2 := Q2.out.cell 2 rfl
  have c3 := Q2.out.cell 3 rfl
  have c4 := Q2.out.cell 4 rfl
  have c5 := Q2.out.cell 5 rfl
  go_wp2_with fail
  clear c0 c1 c2 c3 c4 c5
  refine (HP.out w2 (hm.below B2.out)).mono ?_
  rintro e w3 ⟨A, k, c, rfl, hkX, hkc, hG, hnw, hb⟩
  have B3 := Lib.hid (bnext B2.out hb)
  have Q3 := Lib.hid (Q2.out.below hb)
  have P3 := Lib.hid (P2.out.below hb)
  have HG := Lib.hid hG
  have HK := Lib.hid (And.intro hkX hkc)
  have HN : Hid (∀ g off, A = some ⟨g, off, none⟩ → w2.heap.size ≤ g) := Lib.hid hnw
  clear hG hkX hkc hnw
  clear hb
  go_upto_region 2 with (fail)
  obtain ⟨w4, Hw4⟩ : ∃ u, Hid (w3.alloc (.cells #[.int .i64 6, .string (str l), .string (str dst), .int .i64 off, .int .i64 nn, .string (str data), .slice A k c, .slice none 0 0, .int .i64 0] 49) = u) := ⟨_, Lib.hid rfl⟩
  obtain ⟨r, Hr⟩ : ∃ u, Hid (w3.heap.size = u) := ⟨_, Lib.hid rfl⟩
  have R4 : Hid (BoxC w4 r #[.int .i64 6, .string (str l), .string (str dst), .int .i64 off, .int .i64 nn, .string (str data), .slice A k c, .slice none 0 0, .int .i64 0] 49) := Lib.hid (by rw [← Hw4.out, ← Hr.out]; exact BoxC.new w3 _ _)
  have b4 : Below w3.heap.size w3 w4 := by rw [← Hw4.out]; exact balloc (Below.refl _ _) _
  have B4 := Lib.hid (bnext B3.out b4)
  have Q4 := Lib.hid (Q3.out.below b4)
  have P4 := Lib.hid (P3.out.below b4)
  have C4 := Lib.hid b4
  clear b4
  rw [Hw4.out, Hr.out]
  have c0 := Q4.out.cell 0 rfl
  have c1 := Q4.out.cell 1 rfl
  have c2 := Q4.out.cell 2 rfl
  have c3 := Q4.out.cell 3 rfl
  have c4 := Q4.out.cell 4 rfl
  have c5 := Q4.out.cell 5 rfl
  go_wp2_with fail
  clear c0 c1 c2 c3 c4 c5
  refine (right_6 w4 dst l off nn data h0 h1 h2).mono ?_
  rintro e w5 ⟨rfl, hb⟩
  have B5 := Lib.hid (bnext B4.out hb)
  have Q5 := Lib.hid (Q4.out.below hb)
  have P5 := Lib.hid (P4.out.below hb)
  have R5 := Lib.hid (R4.out.below hb)
  have C5 := Lib.hid (bnext C4.out hb)
  clear hb
  have c0 := Q5.out.cell 0 rfl
  have c1 := Q5.out.cell 1 rfl
  have c2 := Q5.out.cell 2 rfl
  have c3 := Q5.out.cell 3 rfl
  have c4 := Q5.out.cell 4 rfl
  have c5 := Q5.out.cell 5 rfl
  go_wp2_with fail
  clear c0 c1 c2 c3 c4 c5
  refine (many_6 w5 dst l off nn data h0 h1 h2).mono ?_
  rintro e w6 ⟨rfl, hb⟩
  have B6 := Lib.hid (bnext B5.out hb)
  have P6 := Lib.hid (P5.out.below hb)
  have R6 := Lib.hid (R5.out.below hb)
  have C6 := Lib.hid (bnext C5.out hb)
  clear hb
  have z0 := P6.out.cell 0 rfl
  have f0 := P6.out.free 0
  have z1 := P6.out.cell 1 rfl
  have f1 := P6.out.free 1
  have z2 := P6.out.cell 2 rfl
  have f2 := P6.out.free 2
  have z3 := P6.out.cell 3 rfl
  have f3 := P6.out.free 3
  have z4 := P6.out.cell 4 rfl
  have f4 := P6.out.free 4
  have z5 := P6.out.cell 5 rfl
  have f5 := P6.out.free 5
  have z6 := P6.out.cell 6 rfl
  have f6 := P6.out.free 6
  have z7 := P6.out.cell 7 rfl
  have f7 := P6.out.free 7
  have z8 := P6.out.cell 8 rfl
  have f8 := P6.out.free 8
  have v0 := R6.out.cell 0 rfl
  have v1 := R6.out.cell 1 rfl
  have v2 := R6.out.cell 2 rfl
  have v3 := R6.out.cell 3 rfl
  have v4 := R6.out.cell 4 rfl
  have v5 := R6.out.cell 5 rfl
  have v6 := R6.out.cell 6 rfl
  have v7 := R6.out.cell 7 rfl
  have v8 := R6.out.cell 8 rfl
  have PZ := Lib.hid (setA_box P6.out (⟨6, l, dst, off, nn, data⟩ : Cal) (.slice A k c) (.slice none 0 0) 0)
  have BZ : Hid (Below w.heap.size w (setA w6 p (⟨6, l, dst, off, nn, data⟩ : Cal) (.slice A k c) (.slice none 0 0) 0)) := Lib.hid (bmod B6.out (setA_mod w6 p (⟨6, l, dst, off, nn, data⟩ : Cal) (.slice A k c) (.slice none 0 0) 0) (by have := Hp.out; omega))
  have GZ : Hid (IsG (setA w6 p (⟨6, l, dst, off, nn, data⟩ : Cal) (.slice A k c) (.slice none 0 0) 0) 1 encT A k X) := Lib.hid ((HG.out.below C6.out).later (setA_mod w6 p (⟨6, l, dst, off, nn, data⟩ : Cal) (.slice A k c) (.slice none 0 0) 0) (fun g off e _ e2 => by have h1 := HN.out g off e; have h2 : g = p := e2; have h3 := P2.out.lt; omega))
  go_wp2
  obtain ⟨wz, Hwz⟩ : ∃ u, Hid (setA w6 p (⟨6, l, dst, off, nn, data⟩ : Cal) (.slice A k c) (.slice none 0 0) 0 = u) := ⟨_, Lib.hid rfl⟩
  rw [Hwz.out] at PZ BZ GZ
  rw [show ((((((((w6.setCell ⟨p, 0, none⟩ (.int .i64 6)).setCell ⟨p, 1, none⟩ (.string (str l))).setCell ⟨p, 2, none⟩ (.string (str dst))).setCell ⟨p, 3, none⟩ (.int .i64 off)).setCell ⟨p, 4, none⟩ (.int .i64 nn)).setCell ⟨p, 5, none⟩ (.string (str data))).setCell ⟨p, 6, none⟩ (.slice A k c)).setCell ⟨p, 7, none⟩ (.slice none 0 0)).setCell ⟨p, 8, none⟩ (.int .i64 0) = wz from Hwz.out]
  have s0 := PZ.out.cell 0 rfl
  have s1 := PZ.out.cell 1 rfl
  have s2 := PZ.out.cell 2 rfl
  have s3 := PZ.out.cell 3 rfl
  have s4 := PZ.out.cell 4 rfl
  have s5 := PZ.out.cell 5 rfl
  have s6 := PZ.out.cell 6 rfl
  have s7 := PZ.out.cell 7 rfl
  have s8 := PZ.out.cell 8 rfl
  exact bodyPost_ret (v := .tuple #[askV (⟨6, l, dst, off, nn, data⟩ : Cal) (.slice A k c) (.slice none 0 0) 0, .int .i64 0]) (by simp [results, Tryz.results13, go_sem, s0, s1, s2, s3, s4, s5, s6, s7, s8]) rfl ⟨A, k, c, rfl, HK.out.1, HK.out.2, GZ.out, (fun g off e => Nat.le_trans B2.out.size (HN.out g off e)), BZ.out⟩
set_option maxRecDepth 100000 in
set_option maxHeartbeats 4000000 in
theorem ask_7 (X : List (List UInt8)) (hX : PathOk X) (hl : (pathOf X).length ≤ 1000000) (hle : 0 ≤ X.length) (off nn : Int) (data : List UInt8) (dst : List UInt8)  (h0 : 0 ≤ off) (h1 : (data.length : Int) ≤ 6144 - off) (w : World) (hm : Mx w) :
    Calls Tryz.prog 13 #[calV ⟨7, pathOf X, dst, off, nn, data⟩] w fun e w' => ∃ A k c, e = .returned (.tuple #[askV ⟨7, pathOf X, dst, off, nn, data⟩ (.slice A k c) (.slice none 0 0) 0, .int .i64 0]) ∧ k = X.length ∧ k ≤ c ∧ IsG w' 1 encT A k X ∧ (∀ g off, A = some ⟨g, off, none⟩ → w.heap.size ≤ g) ∧ Below w.heap.size w w' := by
  obtain ⟨l, Hl⟩ : ∃ r, Hid (pathOf X = r) := ⟨_, Lib.hid rfl⟩
  have hP := fun (u : World) (hu : Mx u) => paths_7 X hX hl hle off nn data dst u hu
  rw [Hl.out]
  simp only [Hl.out] at hP
  have HP := Lib.hid hP
  clear hP
  go_enter Tryz.func13, Tryz.ntmps13
  go_upto_region 1 with (fail)
  obtain ⟨w1, Hw1⟩ : ∃ u, Hid (w.alloc (.cells #[.int .i64 7, .string (str l), .string (str dst), .int .i64 off, .int .i64 nn, .string (str data)] 32) = u) := ⟨_, Lib.hid rfl⟩
  obtain ⟨w2, Hw2⟩ : ∃ u, Hid (w1.alloc (.cells ask0 49) = u) := ⟨_, Lib.hid rfl⟩
  obtain ⟨q, Hq⟩ : ∃ u, Hid (w.heap.size = u) := ⟨_, Lib.hid rfl⟩
  obtain ⟨p, Hp⟩ : ∃ u, Hid (w.heap.size + 1 = u) := ⟨_, Lib.hid rfl⟩
  have e1 : w1.heap.size = p := by rw [← Hw1.out, ← Hp.out]; simp
  have b1 : Below w.heap.size w w1 := by rw [← Hw1.out]; exact balloc (Below.refl _ _) _
  have b2 : Below w1.heap.size w1 w2 := by rw [← Hw2.out]; exact balloc (Below.refl _ _) _
  have Q2 : Hid (BoxC w2 q #[.int .i64 7, .string (str l), .string (str dst), .int .i64 off, .int .i64 nn, .string (str data)] 32) := Lib.hid (by
    have h : BoxC w1 q #[.int .i64 7, .string (str l), .string (str dst), .int .i64 off, .int .i64 nn, .string (str data)] 32 := by rw [← Hw1.out, ← Hq.out]; exact BoxC.new w _ _
    exact h.below b2)
  have P2 : Hid (BoxC w2 p ask0 49) := Lib.hid (by rw [← Hw2.out, ← e1]; exact BoxC.new w1 _ _)
  have B2 : Hid (Below w.heap.size w w2) := Lib.hid (bnext b1 b2)
  clear b1 b2 e1
  rw [Hw1.out, Hw2.out, Hp.out, Hq.out]
  have c0 := Q2.out.cell 0 rfl
  have c1 := Q2.out.cell 1 rfl
  have c2 := Q2.out.cell 2 rfl
  have c3 := Q2.out.cell 3 rfl
  have c4 := Q2.out.cell 4 rfl
  have c5 := Q2.out.cell 5 rfl
  go_wp2_with fail
  clear c0 c1 c2 c3 c4 c5
  refine (HP.out w2 (hm.below B2.out)).mono ?_
  rintro e w3 ⟨A, k, c, rfl, hkX, hkc, hG, hnw, hb⟩
  have B3 := Lib.hid (bnext B2.out hb)
  have Q3 := Lib.hid (Q2.out.below hb)
  have P3 := Lib.hid (P2.out.below hb)
  have HG := Lib.hid hG
  have HK := Lib.hid (And.intro hkX hkc)
  have HN : Hid (∀ g off, A = some ⟨g, off, none⟩ → w2.heap.size ≤ g) := Lib.hid hnw
  clear hG hkX hkc hnw
  clear hb
  go_upto_region 2 with (fail)
  obtain ⟨w4, Hw4⟩ : ∃ u, Hid (w3.alloc (.cells #[.int .i64 7, .string (str l), .string (str dst), .int .i64 off, .int .i64 nn, .string (str data), .slice A k c, .slice none 0 0, .int .i64 0] 49) = u) := ⟨_, Lib.hid rfl⟩
  obtain ⟨r, Hr⟩ : ∃ u, Hid (w3.heap.size = u) := ⟨_, Lib.hid rfl⟩
  have R4 : Hid (BoxC w4 r #[.int .i64 7, .string (str l), .string (str dst), .int .i64 off, .int .i64 nn, .string (str data), .slice A k c, .slice none 0 0, .int .i64 0] 49) := Lib.hid (by rw [← Hw4.out, ← Hr.out]; exact BoxC.new w3 _ _)
  have b4 : Below w3.heap.size w3 w4 := by rw [← Hw4.out]; exact balloc (Below.refl _ _) _
  have B4 := Lib.hid (bnext B3.out b4)
  have Q4 := Lib.hid (Q3.out.below b4)
  have P4 := Lib.hid (P3.out.below b4)
  have C4 := Lib.hid b4
  clear b4
  rw [Hw4.out, Hr.out]
  have c0 := Q4.out.cell 0 rfl
  have c1 := Q4.out.cell 1 rfl
  have c2 := Q4.out.cell 2 rfl
  have c3 := Q4.out.cell 3 rfl
  have c4 := Q4.out.cell 4 rfl
  have c5 := Q4.out.cell 5 rfl
  go_wp2_with fail
  clear c0 c1 c2 c3 c4 c5
  refine (right_7 w4 dst l off nn data h0 h1).mono ?_
  rintro e w5 ⟨rfl, hb⟩
  have B5 := Lib.hid (bnext B4.out hb)
  have Q5 := Lib.hid (Q4.out.below hb)
  have P5 := Lib.hid (P4.out.below hb)
  have R5 := Lib.hid (R4.out.below hb)
  have C5 := Lib.hid (bnext C4.out hb)
  clear hb
  have c0 := Q5.out.cell 0 rfl
  have c1 := Q5.out.cell 1 rfl
  have c2 := Q5.out.cell 2 rfl
  have c3 := Q5.out.cell 3 rfl
  have c4 := Q5.out.cell 4 rfl
  have c5 := Q5.out.cell 5 rfl
  go_wp2_with fail
  clear c0 c1 c2 c3 c4 c5
  refine (many_7 w5 dst l off nn data h0 h1).mono ?_
  rintro e w6 ⟨rfl, hb⟩
  have B6 := Lib.hid (bnext B5.out hb)
  have P6 := Lib.hid (P5.out.below hb)
  have R6 := Lib.hid (R5.out.below hb)
  have C6 := Lib.hid (bnext C5.out hb)
  clear hb
  have z0 := P6.out.cell 0 rfl
  have f0 := P6.out.free 0
  have z1 := P6.out.cell 1 rfl
  have f1 := P6.out.free 1
  have z2 := P6.out.cell 2 rfl
  have f2 := P6.out.free 2
  have z3 := P6.out.cell 3 rfl
  have f3 := P6.out.free 3
  have z4 := P6.out.cell 4 rfl
  have f4 := P6.out.free 4
  have z5 := P6.out.cell 5 rfl
  have f5 := P6.out.free 5
  have z6 := P6.out.cell 6 rfl
  have f6 := P6.out.free 6
  have z7 := P6.out.cell 7 rfl
  have f7 := P6.out.free 7
  have z8 := P6.out.cell 8 rfl
  have f8 := P6.out.free 8
  have v0 := R6.out.cell 0 rfl
  have v1 := R6.out.cell 1 rfl
  have v2 := R6.out.cell 2 rfl
  have v3 := R6.out.cell 3 rfl
  have v4 := R6.out.cell 4 rfl
  have v5 := R6.out.cell 5 rfl
  have v6 := R6.out.cell 6 rfl
  have v7 := R6.out.cell 7 rfl
  have v8 := R6.out.cell 8 rfl
  have PZ := Lib.hid (setA_box P6.out (⟨7, l, dst, off, nn, data⟩ : Cal) (.slice A k c) (.slice none 0 0) 0)
  have BZ : Hid (Below w.heap.size w (setA w6 p (⟨7, l, dst, off, nn, data⟩ : Cal) (.slice A k c) (.slice none 0 0) 0)) := Lib.hid (bmod B6.out (setA_mod w6 p (⟨7, l, dst, off, nn, data⟩ : Cal) (.slice A k c) (.slice none 0 0) 0) (by have := Hp.out; omega))
  have GZ : Hid (IsG (setA w6 p (⟨7, l, dst, off, nn, data⟩ : Cal) (.slice A k c) (.slice none 0 0) 0) 1 encT A k X) := Lib.hid ((HG.out.below C6.out).later (setA_mod w6 p (⟨7, l, dst, off, nn, data⟩ : Cal) (.slice A k c) (.slice none 0 0) 0) (fun g off e _ e2 => by have h1 := HN.out g off e; have h2 : g = p := e2; have h3 := P2.out.lt; omega))
  go_wp2
  obtain ⟨wz, Hwz⟩ : ∃ u, Hid (setA w6 p (⟨7, l, dst, off, nn, data⟩ : Cal) (.slice A k c) (.slice none 0 0) 0 = u) := ⟨_, Lib.hid rfl⟩
  rw [Hwz.out] at PZ BZ GZ
  rw [show ((((((((w6.setCell ⟨p, 0, none⟩ (.int .i64 7)).setCell ⟨p, 1, none⟩ (.string (str l))).setCell ⟨p, 2, none⟩ (.string (str dst))).setCell ⟨p, 3, none⟩ (.int .i64 off)).setCell ⟨p, 4, none⟩ (.int .i64 nn)).setCell ⟨p, 5, none⟩ (.string (str data))).setCell ⟨p, 6, none⟩ (.slice A k c)).setCell ⟨p, 7, none⟩ (.slice none 0 0)).setCell ⟨p, 8, none⟩ (.int .i64 0) = wz from Hwz.out]
  have s0 := PZ.out.cell 0 rfl
  have s1 := PZ.out.cell 1 rfl
  have s2 := PZ.out.cell 2 rfl
  have s3 := PZ.out.cell 3 rfl
  have s4 := PZ.out.cell 4 rfl
  have s5 := PZ.out.cell 5 rfl
  have s6 := PZ.out.cell 6 rfl
  have s7 := PZ.out.cell 7 rfl
  have s8 := PZ.out.cell 8 rfl
  exact bodyPost_ret (v := .tuple #[askV (⟨7, l, dst, off, nn, data⟩ : Cal) (.slice A k c) (.slice none 0 0) 0, .int .i64 0]) (by simp [results, Tryz.results13, go_sem, s0, s1, s2, s3, s4, s5, s6, s7, s8]) rfl ⟨A, k, c, rfl, HK.out.1, HK.out.2, GZ.out, (fun g off e => Nat.le_trans B2.out.size (HN.out g off e)), BZ.out⟩
set_option maxRecDepth 100000 in
set_option maxHeartbeats 4000000 in
theorem ask_8 (X : List (List UInt8)) (hX : PathOk X) (hl : (pathOf X).length ≤ 1000000) (hle : 0 ≤ X.length) (off nn : Int) (data : List UInt8) (dst : List UInt8)  (h0 : 0 ≤ nn) (h1 : nn ≤ 6144) (w : World) (hm : Mx w) :
    Calls Tryz.prog 13 #[calV ⟨8, pathOf X, dst, off, nn, data⟩] w fun e w' => ∃ A k c, e = .returned (.tuple #[askV ⟨8, pathOf X, dst, off, nn, data⟩ (.slice A k c) (.slice none 0 0) 0, .int .i64 0]) ∧ k = X.length ∧ k ≤ c ∧ IsG w' 1 encT A k X ∧ (∀ g off, A = some ⟨g, off, none⟩ → w.heap.size ≤ g) ∧ Below w.heap.size w w' := by
  obtain ⟨l, Hl⟩ : ∃ r, Hid (pathOf X = r) := ⟨_, Lib.hid rfl⟩
  have hP := fun (u : World) (hu : Mx u) => paths_8 X hX hl hle off nn data dst u hu
  rw [Hl.out]
  simp only [Hl.out] at hP
  have HP := Lib.hid hP
  clear hP
  go_enter Tryz.func13, Tryz.ntmps13
  go_upto_region 1 with (fail)
  obtain ⟨w1, Hw1⟩ : ∃ u, Hid (w.alloc (.cells #[.int .i64 8, .string (str l), .string (str dst), .int .i64 off, .int .i64 nn, .string (str data)] 32) = u) := ⟨_, Lib.hid rfl⟩
  obtain ⟨w2, Hw2⟩ : ∃ u, Hid (w1.alloc (.cells ask0 49) = u) := ⟨_, Lib.hid rfl⟩
  obtain ⟨q, Hq⟩ : ∃ u, Hid (w.heap.size = u) := ⟨_, Lib.hid rfl⟩
  obtain ⟨p, Hp⟩ : ∃ u, Hid (w.heap.size + 1 = u) := ⟨_, Lib.hid rfl⟩
  have e1 : w1.heap.size = p := by rw [← Hw1.out, ← Hp.out]; simp
  have b1 : Below w.heap.size w w1 := by rw [← Hw1.out]; exact balloc (Below.refl _ _) _
  have b2 : Below w1.heap.size w1 w2 := by rw [← Hw2.out]; exact balloc (Below.refl _ _) _
  have Q2 : Hid (BoxC w2 q #[.int .i64 8, .string (str l), .string (str dst), .int .i64 off, .int .i64 nn, .string (str data)] 32) := Lib.hid (by
    have h : BoxC w1 q #[.int .i64 8, .string (str l), .string (str dst), .int .i64 off, .int .i64 nn, .string (str data)] 32 := by rw [← Hw1.out, ← Hq.out]; exact BoxC.new w _ _
    exact h.below b2)
  have P2 : Hid (BoxC w2 p ask0 49) := Lib.hid (by rw [← Hw2.out, ← e1]; exact BoxC.new w1 _ _)
  have B2 : Hid (Below w.heap.size w w2) := Lib.hid (bnext b1 b2)
  clear b1 b2 e1
  rw [Hw1.out, Hw2.out, Hp.out, Hq.out]
  have c0 := Q2.out.cell 0 rfl
  have c1 := Q2.out.cell 1 rfl
  have c2 := Q2.out.cell 2 rfl
  have c3 := Q2.out.cell 3 rfl
  have c4 := Q2.out.cell 4 rfl
  have c5 := Q2.out.cell 5 rfl
  go_wp2_with fail
  clear c0 c1 c2 c3 c4 c5
  refine (HP.out w2 (hm.below B2.out)).mono ?_
  rintro e w3 ⟨A, k, c, rfl, hkX, hkc, hG, hnw, hb⟩
  have B3 := Lib.hid (bnext B2.out hb)
  have Q3 := Lib.hid (Q2.out.below hb)
  have P3 := Lib.hid (P2.out.below hb)
  have HG := Lib.hid hG
  have HK := Lib.hid (And.intro hkX hkc)
  have HN : Hid (∀ g off, A = some ⟨g, off, none⟩ → w2.heap.size ≤ g) := Lib.hid hnw
  clear hG hkX hkc hnw
  clear hb
  go_upto_region 2 with (fail)
  obtain ⟨w4, Hw4⟩ : ∃ u, Hid (w3.alloc (.cells #[.int .i64 8, .string (str l), .string (str dst), .int .i64 off, .int .i64 nn, .string (str data), .slice A k c, .slice none 0 0, .int .i64 0] 49) = u) := ⟨_, Lib.hid rfl⟩
  obtain ⟨r, Hr⟩ : ∃ u, Hid (w3.heap.size = u) := ⟨_, Lib.hid rfl⟩
  have R4 : Hid (BoxC w4 r #[.int .i64 8, .string (str l), .string (str dst), .int .i64 off, .int .i64 nn, .string (str data), .slice A k c, .slice none 0 0, .int .i64 0] 49) := Lib.hid (by rw [← Hw4.out, ← Hr.out]; exact BoxC.new w3 _ _)
  have b4 : Below w3.heap.size w3 w4 := by rw [← Hw4.out]; exact balloc (Below.refl _ _) _
  have B4 := Lib.hid (bnext B3.out b4)
  have Q4 := Lib.hid (Q3.out.below b4)
  have P4 := Lib.hid (P3.out.below b4)
  have C4 := Lib.hid b4
  clear b4
  rw [Hw4.out, Hr.out]
  have c0 := Q4.out.cell 0 rfl
  have c1 := Q4.out.cell 1 rfl
  have c2 := Q4.out.cell 2 rfl
  have c3 := Q4.out.cell 3 rfl
  have c4 := Q4.out.cell 4 rfl
  have c5 := Q4.out.cell 5 rfl
  go_wp2_with fail
  clear c0 c1 c2 c3 c4 c5
  refine (right_8 w4 dst l off nn data h0 h1).mono ?_
  rintro e w5 ⟨rfl, hb⟩
  have B5 := Lib.hid (bnext B4.out hb)
  have Q5 := Lib.hid (Q4.out.below hb)
  have P5 := Lib.hid (P4.out.below hb)
  have R5 := Lib.hid (R4.out.below hb)
  have C5 := Lib.hid (bnext C4.out hb)
  clear hb
  have c0 := Q5.out.cell 0 rfl
  have c1 := Q5.out.cell 1 rfl
  have c2 := Q5.out.cell 2 rfl
  have c3 := Q5.out.cell 3 rfl
  have c4 := Q5.out.cell 4 rfl
  have c5 := Q5.out.cell 5 rfl
  go_wp2_with fail
  clear c0 c1 c2 c3 c4 c5
  refine (many_8 w5 dst l off nn data h0 h1).mono ?_
  rintro e w6 ⟨rfl, hb⟩
  have B6 := Lib.hid (bnext B5.out hb)
  have P6 := Lib.hid (P5.out.below hb)
  have R6 := Lib.hid (R5.out.below hb)
  have C6 := Lib.hid (bnext C5.out hb)
  clear hb
  have z0 := P6.out.cell 0 rfl
  have f0 := P6.out.free 0
  have z1 := P6.out.cell 1 rfl
  have f1 := P6.out.free 1
  have z2 := P6.out.cell 2 rfl
  have f2 := P6.out.free 2
  have z3 := P6.out.cell 3 rfl
  have f3 := P6.out.free 3
  have z4 := P6.out.cell 4 rfl
  have f4 := P6.out.free 4
  have z5 := P6.out.cell 5 rfl
  have f5 := P6.out.free 5
  have z6 := P6.out.cell 6 rfl
  have f6 := P6.out.free 6
  have z7 := P6.out.cell 7 rfl
  have f7 := P6.out.free 7
  have z8 := P6.out.cell 8 rfl
  have f8 := P6.out.free 8
  have v0 := R6.out.cell 0 rfl
  have v1 := R6.out.cell 1 rfl
  have v2 := R6.out.cell 2 rfl
  have v3 := R6.out.cell 3 rfl
  have v4 := R6.out.cell 4 rfl
  have v5 := R6.out.cell 5 rfl
  have v6 := R6.out.cell 6 rfl
  have v7 := R6.out.cell 7 rfl
  have v8 := R6.out.cell 8 rfl
  have PZ := Lib.hid (setA_box P6.out (⟨8, l, dst, off, nn, data⟩ : Cal) (.slice A k c) (.slice none 0 0) 0)
  have BZ : Hid (Below w.heap.size w (setA w6 p (⟨8, l, dst, off, nn, data⟩ : Cal) (.slice A k c) (.slice none 0 0) 0)) := Lib.hid (bmod B6.out (setA_mod w6 p (⟨8, l, dst, off, nn, data⟩ : Cal) (.slice A k c) (.slice none 0 0) 0) (by have := Hp.out; omega))
  have GZ : Hid (IsG (setA w6 p (⟨8, l, dst, off, nn, data⟩ : Cal) (.slice A k c) (.slice none 0 0) 0) 1 encT A k X) := Lib.hid ((HG.out.below C6.out).later (setA_mod w6 p (⟨8, l, dst, off, nn, data⟩ : Cal) (.slice A k c) (.slice none 0 0) 0) (fun g off e _ e2 => by have h1 := HN.out g off e; have h2 : g = p := e2; have h3 := P2.out.lt; omega))
  go_wp2
  obtain ⟨wz, Hwz⟩ : ∃ u, Hid (setA w6 p (⟨8, l, dst, off, nn, data⟩ : Cal) (.slice A k c) (.slice none 0 0) 0 = u) := ⟨_, Lib.hid rfl⟩
  rw [Hwz.out] at PZ BZ GZ
  rw [show ((((((((w6.setCell ⟨p, 0, none⟩ (.int .i64 8)).setCell ⟨p, 1, none⟩ (.string (str l))).setCell ⟨p, 2, none⟩ (.string (str dst))).setCell ⟨p, 3, none⟩ (.int .i64 off)).setCell ⟨p, 4, none⟩ (.int .i64 nn)).setCell ⟨p, 5, none⟩ (.string (str data))).setCell ⟨p, 6, none⟩ (.slice A k c)).setCell ⟨p, 7, none⟩ (.slice none 0 0)).setCell ⟨p, 8, none⟩ (.int .i64 0) = wz from Hwz.out]
  have s0 := PZ.out.cell 0 rfl
  have s1 := PZ.out.cell 1 rfl
  have s2 := PZ.out.cell 2 rfl
  have s3 := PZ.out.cell 3 rfl
  have s4 := PZ.out.cell 4 rfl
  have s5 := PZ.out.cell 5 rfl
  have s6 := PZ.out.cell 6 rfl
  have s7 := PZ.out.cell 7 rfl
  have s8 := PZ.out.cell 8 rfl
  exact bodyPost_ret (v := .tuple #[askV (⟨8, l, dst, off, nn, data⟩ : Cal) (.slice A k c) (.slice none 0 0) 0, .int .i64 0]) (by simp [results, Tryz.results13, go_sem, s0, s1, s2, s3, s4, s5, s6, s7, s8]) rfl ⟨A, k, c, rfl, HK.out.1, HK.out.2, GZ.out, (fun g off e => Nat.le_trans B2.out.size (HN.out g off e)), BZ.out⟩
set_option maxRecDepth 100000 in
set_option maxHeartbeats 4000000 in
theorem ask_10 (X : List (List UInt8)) (hX : PathOk X) (hl : (pathOf X).length ≤ 1000000) (hle : 0 ≤ X.length) (off nn : Int) (data : List UInt8) (dst : List UInt8)  (w : World) (hm : Mx w) :
    Calls Tryz.prog 13 #[calV ⟨10, pathOf X, dst, off, nn, data⟩] w fun e w' => ∃ A k c, e = .returned (.tuple #[askV ⟨10, pathOf X, dst, off, nn, data⟩ (.slice A k c) (.slice none 0 0) 0, .int .i64 0]) ∧ k = X.length ∧ k ≤ c ∧ IsG w' 1 encT A k X ∧ (∀ g off, A = some ⟨g, off, none⟩ → w.heap.size ≤ g) ∧ Below w.heap.size w w' := by
  obtain ⟨l, Hl⟩ : ∃ r, Hid (pathOf X = r) := ⟨_, Lib.hid rfl⟩
  have hP := fun (u : World) (hu : Mx u) => paths_10 X hX hl hle off nn data dst u hu
  rw [Hl.out]
  simp only [Hl.out] at hP
  have HP := Lib.hid hP
  clear hP
  go_enter Tryz.func13, Tryz.ntmps13
  go_upto_region 1 with (fail)
  obtain ⟨w1, Hw1⟩ : ∃ u, Hid (w.alloc (.cells #[.int .i64 10, .string (str l), .string (str dst), .int .i64 off, .int .i64 nn, .string (str data)] 32) = u) := ⟨_, Lib.hid rfl⟩
  obtain ⟨w2, Hw2⟩ : ∃ u, Hid (w1.alloc (.cells ask0 49) = u) := ⟨_, Lib.hid rfl⟩
  obtain ⟨q, Hq⟩ : ∃ u, Hid (w.heap.size = u) := ⟨_, Lib.hid rfl⟩
  obtain ⟨p, Hp⟩ : ∃ u, Hid (w.heap.size + 1 = u) := ⟨_, Lib.hid rfl⟩
  have e1 : w1.heap.size = p := by rw [← Hw1.out, ← Hp.out]; simp
  have b1 : Below w.heap.size w w1 := by rw [← Hw1.out]; exact balloc (Below.refl _ _) _
  have b2 : Below w1.heap.size w1 w2 := by rw [← Hw2.out]; exact balloc (Below.refl _ _) _
  have Q2 : Hid (BoxC w2 q #[.int .i64 10, .string (str l), .string (str dst), .int .i64 off, .int .i64 nn, .string (str data)] 32) := Lib.hid (by
    have h : BoxC w1 q #[.int .i64 10, .string (str l), .string (str dst), .int .i64 off, .int .i64 nn, .string (str data)] 32 := by rw [← Hw1.out, ← Hq.out]; exact BoxC.new w _ _
    exact h.below b2)
  have P2 : Hid (BoxC w2 p ask0 49) := Lib.hid (by rw [← Hw2.out, ← e1]; exact BoxC.new w1 _ _)
  have B2 : Hid (Below w.heap.size w w2) := Lib.hid (bnext b1 b2)
  clear b1 b2 e1
  rw [Hw1.out, Hw2.out, Hp.out, Hq.out]
  have c0 := Q2.out.cell 0 rfl
  have c1 := Q2.out.cell 1 rfl
  have c2 := Q2.out.cell 2 rfl
  have c3 := Q2.out.cell 3 rfl
  have c4 := Q2.out.cell 4 rfl
  have c5 := Q2.out.cell 5 rfl
  go_wp2_with fail
  clear c0 c1 c2 c3 c4 c5
  refine (HP.out w2 (hm.below B2.out)).mono ?_
  rintro e w3 ⟨A, k, c, rfl, hkX, hkc, hG, hnw, hb⟩
  have B3 := Lib.hid (bnext B2.out hb)
  have Q3 := Lib.hid (Q2.out.below hb)
  have P3 := Lib.hid (P2.out.below hb)
  have HG := Lib.hid hG
  have HK := Lib.hid (And.intro hkX hkc)
  have HN : Hid (∀ g off, A = some ⟨g, off, none⟩ → w2.heap.size ≤ g) := Lib.hid hnw
  clear hG hkX hkc hnw
  clear hb
  go_upto_region 2 with (fail)
  obtain ⟨w4, Hw4⟩ : ∃ u, Hid (w3.alloc (.cells #[.int .i64 10, .string (str l), .string (str dst), .int .i64 off, .int .i64 nn, .string (str data), .slice A k c, .slice none 0 0, .int .i64 0] 49) = u) := ⟨_, Lib.hid rfl⟩
  obtain ⟨r, Hr⟩ : ∃ u, Hid (w3.heap.size = u) := ⟨_, Lib.hid rfl⟩
  have R4 : Hid (BoxC w4 r #[.int .i64 10, .string (str l), .string (str dst), .int .i64 off, .int .i64 nn, .string (str data), .slice A k c, .slice none 0 0, .int .i64 0] 49) := Lib.hid (by rw [← Hw4.out, ← Hr.out]; exact BoxC.new w3 _ _)
  have b4 : Below w3.heap.size w3 w4 := by rw [← Hw4.out]; exact balloc (Below.refl _ _) _
  have B4 := Lib.hid (bnext B3.out b4)
  have Q4 := Lib.hid (Q3.out.below b4)
  have P4 := Lib.hid (P3.out.below b4)
  have C4 := Lib.hid b4
  clear b4
  rw [Hw4.out, Hr.out]
  have c0 := Q4.out.cell 0 rfl
  have c1 := Q4.out.cell 1 rfl
  have c2 := Q4.out.cell 2 rfl
  have c3 := Q4.out.cell 3 rfl
  have c4 := Q4.out.cell 4 rfl
  have c5 := Q4.out.cell 5 rfl
  go_wp2_with fail
  clear c0 c1 c2 c3 c4 c5
  refine (right_10 w4 dst l off nn data).mono ?_
  rintro e w5 ⟨rfl, hb⟩
  have B5 := Lib.hid (bnext B4.out hb)
  have Q5 := Lib.hid (Q4.out.below hb)
  have P5 := Lib.hid (P4.out.below hb)
  have R5 := Lib.hid (R4.out.below hb)
  have C5 := Lib.hid (bnext C4.out hb)
  clear hb
  have c0 := Q5.out.cell 0 rfl
  have c1 := Q5.out.cell 1 rfl
  have c2 := Q5.out.cell 2 rfl
  have c3 := Q5.out.cell 3 rfl
  have c4 := Q5.out.cell 4 rfl
  have c5 := Q5.out.cell 5 rfl
  go_wp2_with fail
  clear c0 c1 c2 c3 c4 c5
  refine (many_10 w5 dst l off nn data).mono ?_
  rintro e w6 ⟨rfl, hb⟩
  have B6 := Lib.hid (bnext B5.out hb)
  have P6 := Lib.hid (P5.out.below hb)
  have R6 := Lib.hid (R5.out.below hb)
  have C6 := Lib.hid (bnext C5.out hb)
  clear hb
  have z0 := P6.out.cell 0 rfl
  have f0 := P6.out.free 0
  have z1 := P6.out.cell 1 rfl
  have f1 := P6.out.free 1
  have z2 := P6.out.cell 2 rfl
  have f2 := P6.out.free 2
  have z3 := P6.out.cell 3 rfl
  have f3 := P6.out.free 3
  have z4 := P6.out.cell 4 rfl
  have f4 := P6.out.free 4
  have z5 := P6.out.cell 5 rfl
  have f5 := P6.out.free 5
  have z6 := P6.out.cell 6 rfl
  have f6 := P6.out.free 6
  have z7 := P6.out.cell 7 rfl
  have f7 := P6.out.free 7
  have z8 := P6.out.cell 8 rfl
  have f8 := P6.out.free 8
  have v0 := R6.out.cell 0 rfl
  have v1 := R6.out.cell 1 rfl
  have v2 := R6.out.cell 2 rfl
  have v3 := R6.out.cell 3 rfl
  have v4 := R6.out.cell 4 rfl
  have v5 := R6.out.cell 5 rfl
  have v6 := R6.out.cell 6 rfl
  have v7 := R6.out.cell 7 rfl
  have v8 := R6.out.cell 8 rfl
  have PZ := Lib.hid (setA_box P6.out (⟨10, l, dst, off, nn, data⟩ : Cal) (.slice A k c) (.slice none 0 0) 0)
  have BZ : Hid (Below w.heap.size w (setA w6 p (⟨10, l, dst, off, nn, data⟩ : Cal) (.slice A k c) (.slice none 0 0) 0)) := Lib.hid (bmod B6.out (setA_mod w6 p (⟨10, l, dst, off, nn, data⟩ : Cal) (.slice A k c) (.slice none 0 0) 0) (by have := Hp.out; omega))
  have GZ : Hid (IsG (setA w6 p (⟨10, l, dst, off, nn, data⟩ : Cal) (.slice A k c) (.slice none 0 0) 0) 1 encT A k X) := Lib.hid ((HG.out.below C6.out).later (setA_mod w6 p (⟨10, l, dst, off, nn, data⟩ : Cal) (.slice A k c) (.slice none 0 0) 0) (fun g off e _ e2 => by have h1 := HN.out g off e; have h2 : g = p := e2; have h3 := P2.out.lt; omega))
  go_wp2
  obtain ⟨wz, Hwz⟩ : ∃ u, Hid (setA w6 p (⟨10, l, dst, off, nn, data⟩ : Cal) (.slice A k c) (.slice none 0 0) 0 = u) := ⟨_, Lib.hid rfl⟩
  rw [Hwz.out] at PZ BZ GZ
  rw [show ((((((((w6.setCell ⟨p, 0, none⟩ (.int .i64 10)).setCell ⟨p, 1, none⟩ (.string (str l))).setCell ⟨p, 2, none⟩ (.string (str dst))).setCell ⟨p, 3, none⟩ (.int .i64 off)).setCell ⟨p, 4, none⟩ (.int .i64 nn)).setCell ⟨p, 5, none⟩ (.string (str data))).setCell ⟨p, 6, none⟩ (.slice A k c)).setCell ⟨p, 7, none⟩ (.slice none 0 0)).setCell ⟨p, 8, none⟩ (.int .i64 0) = wz from Hwz.out]
  have s0 := PZ.out.cell 0 rfl
  have s1 := PZ.out.cell 1 rfl
  have s2 := PZ.out.cell 2 rfl
  have s3 := PZ.out.cell 3 rfl
  have s4 := PZ.out.cell 4 rfl
  have s5 := PZ.out.cell 5 rfl
  have s6 := PZ.out.cell 6 rfl
  have s7 := PZ.out.cell 7 rfl
  have s8 := PZ.out.cell 8 rfl
  exact bodyPost_ret (v := .tuple #[askV (⟨10, l, dst, off, nn, data⟩ : Cal) (.slice A k c) (.slice none 0 0) 0, .int .i64 0]) (by simp [results, Tryz.results13, go_sem, s0, s1, s2, s3, s4, s5, s6, s7, s8]) rfl ⟨A, k, c, rfl, HK.out.1, HK.out.2, GZ.out, (fun g off e => Nat.le_trans B2.out.size (HN.out g off e)), BZ.out⟩
set_option maxRecDepth 100000 in
set_option maxHeartbeats 4000000 in
theorem ask_12 (off nn : Int) (data : List UInt8) (pth dst : List UInt8)  (w : World) (hm : Mx w) :
    Calls Tryz.prog 13 #[calV ⟨12, pth, dst, off, nn, data⟩] w fun e w' => e = .returned (.tuple #[askV ⟨12, pth, dst, off, nn, data⟩ (.slice none 0 0) (.slice none 0 0) 0, .int .i64 0]) ∧ Below w.heap.size w w' := by
  have hP := fun (u : World) (hu : Mx u) => paths_12 off nn data pth dst u hu
  have HP := Lib.hid hP
  clear hP
  go_enter Tryz.func13, Tryz.ntmps13
  go_upto_region 1 with (fail)
  obtain ⟨w1, Hw1⟩ : ∃ u, Hid (w.alloc (.cells #[.int .i64 12, .string (str pth), .string (str dst), .int .i64 off, .int .i64 nn, .string (str data)] 32) = u) := ⟨_, Lib.hid rfl⟩
  obtain ⟨w2, Hw2⟩ : ∃ u, Hid (w1.alloc (.cells ask0 49) = u) := ⟨_, Lib.hid rfl⟩
  obtain ⟨q, Hq⟩ : ∃ u, Hid (w.heap.size = u) := ⟨_, Lib.hid rfl⟩
  obtain ⟨p, Hp⟩ : ∃ u, Hid (w.heap.size + 1 = u) := ⟨_, Lib.hid rfl⟩
  have e1 : w1.heap.size = p := by rw [← Hw1.out, ← Hp.out]; simp
  have b1 : Below w.heap.size w w1 := by rw [← Hw1.out]; exact balloc (Below.refl _ _) _
  have b2 : Below w1.heap.size w1 w2 := by rw [← Hw2.out]; exact balloc (Below.refl _ _) _
  have Q2 : Hid (BoxC w2 q #[.int .i64 12, .string (str pth), .string (str dst), .int .i64 off, .int .i64 nn, .string (str data)] 32) := Lib.hid (by
    have h : BoxC w1 q #[.int .i64 12, .string (str pth), .string (str dst), .int .i64 off, .int .i64 nn, .string (str data)] 32 := by rw [← Hw1.out, ← Hq.out]; exact BoxC.new w _ _
    exact h.below b2)
  have P2 : Hid (BoxC w2 p ask0 49) := Lib.hid (by rw [← Hw2.out, ← e1]; exact BoxC.new w1 _ _)
  have B2 : Hid (Below w.heap.size w w2) := Lib.hid (bnext b1 b2)
  clear b1 b2 e1
  rw [Hw1.out, Hw2.out, Hp.out, Hq.out]
  have c0 := Q2.out.cell 0 rfl
  have c1 := Q2.out.cell 1 rfl
  have c2 := Q2.out.cell 2 rfl
  have c3 := Q2.out.cell 3 rfl
  have c4 := Q2.out.cell 4 rfl
  have c5 := Q2.out.cell 5 rfl
  go_wp2_with fail
  clear c0 c1 c2 c3 c4 c5
  refine (HP.out w2 (hm.below B2.out)).mono ?_
  rintro e w3 ⟨rfl, hb⟩
  have B3 := Lib.hid (bnext B2.out hb)
  have Q3 := Lib.hid (Q2.out.below hb)
  have P3 := Lib.hid (P2.out.below hb)
  clear hb
  go_upto_region 2 with (fail)
  obtain ⟨w4, Hw4⟩ : ∃ u, Hid (w3.alloc (.cells #[.int .i64 12, .string (str pth), .string (str dst), .int .i64 off, .int .i64 nn, .string (str data), .slice none 0 0, .slice none 0 0, .int .i64 0] 49) = u) := ⟨_, Lib.hid rfl⟩
  obtain ⟨r, Hr⟩ : ∃ u, Hid (w3.heap.size = u) := ⟨_, Lib.hid rfl⟩
  have R4 : Hid (BoxC w4 r #[.int .i64 12, .string (str pth), .string (str dst), .int .i64 off, .int .i64 nn, .string (str data), .slice none 0 0, .slice none 0 0, .int .i64 0] 49) := Lib.hid (by rw [← Hw4.out, ← Hr.out]; exact BoxC.new w3 _ _)
  have b4 : Below w3.heap.size w3 w4 := by rw [← Hw4.out]; exact balloc (Below.refl _ _) _
  have B4 := Lib.hid (bnext B3.out b4)
  have Q4 := Lib.hid (Q3.out.below b4)
  have P4 := Lib.hid (P3.out.below b4)
  have C4 := Lib.hid b4
  clear b4
  rw [Hw4.out, Hr.out]
  have c0 := Q4.out.cell 0 rfl
  have c1 := Q4.out.cell 1 rfl
  have c2 := Q4.out.cell 2 rfl
  have c3 := Q4.out.cell 3 rfl
  have c4 := Q4.out.cell 4 rfl
  have c5 := Q4.out.cell 5 rfl
  go_wp2_with fail
  clear c0 c1 c2 c3 c4 c5
  refine (right_12 w4 dst pth off nn data).mono ?_
  rintro e w5 ⟨rfl, hb⟩
  have B5 := Lib.hid (bnext B4.out hb)
  have Q5 := Lib.hid (Q4.out.below hb)
  have P5 := Lib.hid (P4.out.below hb)
  have R5 := Lib.hid (R4.out.below hb)
  have C5 := Lib.hid (bnext C4.out hb)
  clear hb
  have c0 := Q5.out.cell 0 rfl
  have c1 := Q5.out.cell 1 rfl
  have c2 := Q5.out.cell 2 rfl
  have c3 := Q5.out.cell 3 rfl
  have c4 := Q5.out.cell 4 rfl
  have c5 := Q5.out.cell 5 rfl
  go_wp2_with fail
  clear c0 c1 c2 c3 c4 c5
  refine (many_12 w5 dst pth off nn data).mono ?_
  rintro e w6 ⟨rfl, hb⟩
  have B6 := Lib.hid (bnext B5.out hb)
  have P6 := Lib.hid (P5.out.below hb)
  have R6 := Lib.hid (R5.out.below hb)
  have C6 := Lib.hid (bnext C5.out hb)
  clear hb
  have z0 := P6.out.cell 0 rfl
  have f0 := P6.out.free 0
  have z1 := P6.out.cell 1 rfl
  have f1 := P6.out.free 1
  have z2 := P6.out.cell 2 rfl
  have f2 := P6.out.free 2
  have z3 := P6.out.cell 3 rfl
  have f3 := P6.out.free 3
  have z4 := P6.out.cell 4 rfl
  have f4 := P6.out.free 4
  have z5 := P6.out.cell 5 rfl
  have f5 := P6.out.free 5
  have z6 := P6.out.cell 6 rfl
  have f6 := P6.out.free 6
  have z7 := P6.out.cell 7 rfl
  have f7 := P6.out.free 7
  have z8 := P6.out.cell 8 rfl
  have f8 := P6.out.free 8
  have v0 := R6.out.cell 0 rfl
  have v1 := R6.out.cell 1 rfl
  have v2 := R6.out.cell 2 rfl
  have v3 := R6.out.cell 3 rfl
  have v4 := R6.out.cell 4 rfl
  have v5 := R6.out.cell 5 rfl
  have v6 := R6.out.cell 6 rfl
  have v7 := R6.out.cell 7 rfl
  have v8 := R6.out.cell 8 rfl
  have PZ := Lib.hid (setA_box P6.out (⟨12, pth, dst, off, nn, data⟩ : Cal) (.slice none 0 0) (.slice none 0 0) 0)
  have BZ : Hid (Below w.heap.size w (setA w6 p (⟨12, pth, dst, off, nn, data⟩ : Cal) (.slice none 0 0) (.slice none 0 0) 0)) := Lib.hid (bmod B6.out (setA_mod w6 p (⟨12, pth, dst, off, nn, data⟩ : Cal) (.slice none 0 0) (.slice none 0 0) 0) (by have := Hp.out; omega))
  go_wp2
  obtain ⟨wz, Hwz⟩ : ∃ u, Hid (setA w6 p (⟨12, pth, dst, off, nn, data⟩ : Cal) (.slice none 0 0) (.slice none 0 0) 0 = u) := ⟨_, Lib.hid rfl⟩
  rw [Hwz.out] at PZ BZ
  rw [show ((((((((w6.setCell ⟨p, 0, none⟩ (.int .i64 12)).setCell ⟨p, 1, none⟩ (.string (str pth))).setCell ⟨p, 2, none⟩ (.string (str dst))).setCell ⟨p, 3, none⟩ (.int .i64 off)).setCell ⟨p, 4, none⟩ (.int .i64 nn)).setCell ⟨p, 5, none⟩ (.string (str data))).setCell ⟨p, 6, none⟩ (.slice none 0 0)).setCell ⟨p, 7, none⟩ (.slice none 0 0)).setCell ⟨p, 8, none⟩ (.int .i64 0) = wz from Hwz.out]
  have s0 := PZ.out.cell 0 rfl
  have s1 := PZ.out.cell 1 rfl
  have s2 := PZ.out.cell 2 rfl
  have s3 := PZ.out.cell 3 rfl
  have s4 := PZ.out.cell 4 rfl
  have s5 := PZ.out.cell 5 rfl
  have s6 := PZ.out.cell 6 rfl
  have s7 := PZ.out.cell 7 rfl
  have s8 := PZ.out.cell 8 rfl
  exact bodyPost_ret (v := .tuple #[askV (⟨12, pth, dst, off, nn, data⟩ : Cal) (.slice none 0 0) (.slice none 0 0) 0, .int .i64 0]) (by simp [results, Tryz.results13, go_sem, s0, s1, s2, s3, s4, s5, s6, s7, s8]) rfl ⟨rfl, BZ.out⟩
end Go.Proofs.YtiomhdanmcnaeaaGreatDoor
