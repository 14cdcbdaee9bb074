/- What would be renamed into itself is not. -/
import Derived.Test.YtiomhdanmcnaeaaGreatDoorUb16
import Derived.Test.YtiomhdanmcnaeaaGreatDoorShelf
namespace Go.Proofs.YtiomhdanmcnaeaaGreatDoor
open Go.RowKit

theorem str_getD {X : List (List UInt8)} {j : Nat} (hj : j < X.length) : (X.map str).getD j ByteArray.empty = str X[j] := by
  rw [List.getD_eq_getElem?_getD, List.getElem?_map, List.getElem?_eq_getElem hj]; rfl
/-- A path leads through another one. -/
theorem inside_yes (X Z : List (List UInt8)) (A B : Option Addr) (n c m d : Nat) (w : World) (hX : IsG w 1 encT A n X) (hZ : IsG w 1 encT B m Z) (hnc : n ≤ c) (hm0 : 0 < m) (hmn : m < n) (h : X.take m = Z) :
    Calls Tryz.prog 57 #[.slice A n c, .slice B m d] w fun e w' => e = .returned (.bool true) ∧ Below w.heap.size w w' := by
  obtain ⟨g1, o1, rfl, hg1, c1⟩ := hX.cells (by omega)
  obtain ⟨g2, o2, rfl, hg2, c2⟩ := hZ.cells hm0
  have hxl := hX.length
  have hzl := hZ.length
  have hmi : (m : Int) < (n : Int) := by omega
  have hmc : (m : Int) ≤ (c : Int) := by omega
  have hbn := hX.small
  have hbm := hZ.small
  have HE := Lib.hid (fun d' => Tryz.slices_Equal_string g1 o1 m d' g2 o2 m d (X.map str) (Z.map str) w (by rw [List.length_map]; omega) (by rw [List.length_map]; omega) (by omega) (by omega)
    (fun j hj => by
      rw [List.length_map] at hj
      rw [str_getD hj]
      have h0 := c1 j X[j] 0 (.string (str X[j])) (List.getElem?_eq_getElem hj) rfl
      rwa [Nat.mul_one, Nat.add_zero] at h0)
    (fun j hj => by
      rw [List.length_map] at hj
      rw [str_getD hj]
      have h0 := c2 j Z[j] 0 (.string (str Z[j])) (List.getElem?_eq_getElem hj) rfl
      rwa [Nat.mul_one, Nat.add_zero] at h0))
  have hd : decide ((X.map str).take m = (Z.map str).take m) = true := by
    rw [← List.map_take, h, List.take_of_length_le (by rw [List.length_map]; omega)]
    simp
  have HD := Lib.hid hd
  clear hX hZ c1 c2 h hd
  go_enter Tryz.func57, Tryz.ntmps57
  go_wp2_with fail
  refine (HE.out _).mono ?_
  rw [HD.out]
  rintro e w2 ⟨rfl, q, rfl⟩
  go_wp2
  go_ret
  exact ⟨rfl, below_drewN _ _⟩
section
variable {w : World} {b n : Nat} {mt ml : Option Nat} {T : Tr}
set_option maxRecDepth 100000 in
set_option maxHeartbeats 8000000 in
theorem rename_inside {c : Nat} (h : IsT w b mt ml n T) (ht : TokC T c) (cl : Cal) (A B : Option Addr) (k cc m d : Nat) (Y Y2 : List (List UInt8)) (s s2 : List UInt8) (hX : IsG w 1 encT A (k + 1) (Y ++ [s])) (hkc : k + 1 ≤ cc) (hs : ∀ x ∈ Y ++ [s], x.length ≤ 1000) (hZ : IsG w 1 encT B (m + 1) (Y2 ++ [s2])) (hmd : m + 1 ≤ d) (hs2 : ∀ x ∈ Y2 ++ [s2], x.length ≤ 1000) (hv : T.vacE Y2 s2 = 0) (hkm : k < m) (hin : (Y2 ++ [s2]).take (k + 1) = Y ++ [s]) (th : Int) :
    Calls Tryz.prog 32 #[.pointer (some ⟨b, 0, none⟩), askV cl (.slice A (k + 1) cc) (.slice B (m + 1) d) th] w fun e w' => e = .returned (repV (repE 1)) ∧ IsT w' b mt ml n T ∧ Below w.heap.size w w' := by
  have HX0 := Lib.hid hX
  have HZ0 := Lib.hid hZ
  have H := Lib.hid h
  have Ht := Lib.hid ht
  have Hs := Lib.hid hs
  have Hs2 := Lib.hid hs2
  have Hv := Lib.hid hv
  have Hin := Lib.hid hin
  clear h ht hX hZ hs hs2 hv hin
  obtain ⟨P, HP⟩ : ∃ r, Hid (T.spotP Y s = r) := ⟨_, Lib.hid rfl⟩
  obtain ⟨P2, HP2⟩ : ∃ r, Hid (T.spotP Y2 s2 = r) := ⟨_, Lib.hid rfl⟩
  go_enter Tryz.func32, Tryz.ntmps32
  go_upto_region 1 with (fail)
  obtain ⟨w1, Hw1⟩ : ∃ u, Hid (w.alloc (.cells (askC cl (.slice A (k + 1) cc) (.slice B (m + 1) d) th) 49) = u) := ⟨_, Lib.hid rfl⟩
  obtain ⟨q, Hq⟩ : ∃ u, Hid (w.heap.size = u) := ⟨_, Lib.hid rfl⟩
  have HX1 : Hid (BoxC w1 q (askC cl (.slice A (k + 1) cc) (.slice B (m + 1) d) th) 49) := Lib.hid (by rw [← Hw1.out, ← Hq.out]; exact BoxC.new w _ _)
  have B1 : Hid (Below w.heap.size w w1) := Lib.hid (by rw [← Hw1.out]; exact balloc (Below.refl _ _) _)
  obtain ⟨w2, Hw2⟩ : ∃ u, Hid (w1.alloc (.cells rep0 29) = u) := ⟨_, Lib.hid rfl⟩
  obtain ⟨p, Hp⟩ : ∃ u, Hid (w.heap.size + 1 = u) := ⟨_, Lib.hid rfl⟩
  have hp1 : w1.heap.size = p := by rw [← Hw1.out, ← Hp.out]; simp
  have HR2 : Hid (BoxC w2 p rep0 29) := Lib.hid (by rw [← Hw2.out, ← hp1]; exact BoxC.new w1 _ _)
  have hb2 : Below w1.heap.size w1 w2 := by rw [← Hw2.out]; exact balloc (Below.refl _ _) _
  have B2 := Lib.hid (bnext B1.out hb2)
  have X2 := Lib.hid (HX1.out.below hb2)
  clear hb2
  have H2 := Lib.hid (H.out.below B2.out)
  rw [Hw1.out, Hw2.out, Hp.out, Hq.out]
  have x6 := X2.out.cell 6 rfl
  go_wp2_with fail
  clear x6
  refine (spotOf_any H2.out Ht.out.tok A k cc Y s (HX0.out.below B2.out) hkc Hs.out).mono ?_
  rw [show placeP (T.spotF Y) s = P from HP.out]
  rintro e w3 ⟨rfl, hb⟩
  have B3 := Lib.hid (bnext B2.out hb)
  have R3 := Lib.hid (HR2.out.below hb)
  have X3 := Lib.hid (X2.out.below hb)
  clear hb
  go_upto_region 2 with (fail)
  obtain ⟨w4, Hw4⟩ : ∃ u, Hid (w3.alloc (.cells #[.int .i64 P.1, .int .i64 P.2, .string (str s)] 96) = u) := ⟨_, Lib.hid rfl⟩
  obtain ⟨r, Hr⟩ : ∃ u, Hid (w3.heap.size = u) := ⟨_, Lib.hid rfl⟩
  have hb4 : Below w3.heap.size w3 w4 := by rw [← Hw4.out]; exact balloc (Below.refl _ _) _
  have B4 := Lib.hid (bnext B3.out hb4)
  have R4 := Lib.hid (R3.out.below hb4)
  have X4 := Lib.hid (X3.out.below hb4)
  clear hb4
  rw [Hw4.out, Hr.out]
  have x7 := X4.out.cell 7 rfl
  go_wp2_with fail
  clear x7
  refine (vacant_any (H.out.below B4.out) Ht.out.tok B m d Y2 s2 (HZ0.out.below B4.out) hmd Hs2.out).mono ?_
  rw [HP2.out, Hv.out]
  rintro e w5 ⟨rfl, hb⟩
  have B5 := Lib.hid (bnext B4.out hb)
  have R5 := Lib.hid (R4.out.below hb)
  have X5 := Lib.hid (X4.out.below hb)
  clear hb
  go_upto_region 3 with (fail)
  obtain ⟨w6, Hw6⟩ : ∃ u, Hid (w5.alloc (.cells #[.int .i64 P2.1, .int .i64 P2.2, .string (str s2)] 96) = u) := ⟨_, Lib.hid rfl⟩
  obtain ⟨r2, Hr2⟩ : ∃ u, Hid (w5.heap.size = u) := ⟨_, Lib.hid rfl⟩
  have hb6 : Below w5.heap.size w5 w6 := by rw [← Hw6.out]; exact balloc (Below.refl _ _) _
  have B6 := Lib.hid (bnext B5.out hb6)
  have R6 := Lib.hid (R5.out.below hb6)
  have X6 := Lib.hid (X5.out.below hb6)
  clear hb6
  rw [Hw6.out, Hr2.out]
  have x6 := X6.out.cell 6 rfl
  have x7 := X6.out.cell 7 rfl
  go_wp2_with fail
  clear x6 x7
  refine (inside_yes (Y2 ++ [s2]) (Y ++ [s]) B A (m + 1) d (k + 1) cc _ (HZ0.out.below B6.out) (HX0.out.below B6.out) hmd (by omega) (by omega) Hin.out).mono ?_
  rintro e w7 ⟨rfl, hb⟩
  have B7 := Lib.hid (bnext B6.out hb)
  have R7 := Lib.hid (R6.out.below hb)
  have H7 := Lib.hid (H.out.below B7.out)
  clear hb
  have f0 := R7.out.free 0
  have f1 := R7.out.free 1
  have f2 := R7.out.free 2
  have f3 := R7.out.free 3
  have f4 := R7.out.free 4
  have f5 := R7.out.free 5
  have f6 := R7.out.free 6
  have z0 := R7.out.cell 0 rfl
  have z1 := R7.out.cell 1 rfl
  have z2 := R7.out.cell 2 rfl
  have z3 := R7.out.cell 3 rfl
  have z4 := R7.out.cell 4 rfl
  have z5 := R7.out.cell 5 rfl
  have z6 := R7.out.cell 6 rfl
  have RZ := Lib.hid (setR_box R7.out (repE 1))
  have HZ := Lib.hid (H7.out.box Ht.out.ne (setR_mod w7 p (repE 1)) R7.out rep_no2 rep_nohe)
  have TZ := Lib.hid (bmod B7.out (setR_mod w7 p (repE 1)) (by have := Hp.out; omega))
  go_wp2
  obtain ⟨wz, Hwz⟩ : ∃ u, Hid (setR w7 p (repE 1) = u) := ⟨_, Lib.hid rfl⟩
  rw [Hwz.out] at RZ HZ TZ
  rw [show ((((((w7.setCell ⟨p, 0, none⟩ (.int .i64 1)).setCell ⟨p, 1, none⟩ (.string (str []))).setCell ⟨p, 2, none⟩ (.slice none 0 0)).setCell ⟨p, 3, none⟩ (.int .i64 0)).setCell ⟨p, 4, none⟩ (.int .i64 0)).setCell ⟨p, 5, none⟩ (.int .i64 0)).setCell ⟨p, 6, none⟩ (.int .i64 0) = wz from Hwz.out]
  have s0 := RZ.out.cell 0 rfl
  have s1 := RZ.out.cell 1 rfl
  have s2 := RZ.out.cell 2 rfl
  have s3 := RZ.out.cell 3 rfl
  have s4 := RZ.out.cell 4 rfl
  have s5 := RZ.out.cell 5 rfl
  have s6 := RZ.out.cell 6 rfl
  exact bodyPost_ret (v := repV (repE 1)) (by simp [results, Tryz.results32, go_sem, s0, s1, s2, s3, s4, s5, s6]) rfl ⟨rfl, HZ.out, TZ.out⟩
end
end Go.Proofs.YtiomhdanmcnaeaaGreatDoor
