/- The chapter's examples of trees. -/
import Derived.Test.YtiomhdanmcnaeaaGreatDoorUk16
import Derived.Test.YtiomhdanmcnaeaaGreatDoorUl16
import Derived.Test.YtiomhdanmcnaeaaGreatDoorUn16
import Derived.Test.YtiomhdanmcnaeaaGreatDoorUo16
namespace Go.Proofs.YtiomhdanmcnaeaaGreatDoor
open Go.RowKit

def W0 : Tr := newTr 9
def W1 : Tr := W0.newT [] [97] 1
def W2 : Tr := W1.changeT 1 ((sized [] 2).take 0 ++ [120, 121] ++ (sized [] 2).drop (0 + 2))
def W3 : Tr := W2.linkT 1 [] [98]
def W4 : Tr := W3.newT [] [100] 2
theorem aw1 : W0.newE [] [97] 1 = 0 := by decide +kernel
theorem aw2 : W1.walkP 0 [[97]] = (1, 0) ∧ W1.th 1 = some (1, 1, []) ∧ W1.changeE 1 2 = 0 ∧ W1.last = 1 := by decide +kernel
theorem aw3 : W2.free = 6 ∧ W2.walkP 0 [[97]] = (1, 0) ∧ W2.th 1 = some (1, 1, [120, 121]) ∧ W2.linkE 1 [] [98] = 0 ∧ W2.last = 1 := by decide +kernel
theorem aw4 : W3.walkP 0 [[98]] = (1, 0) ∧ W3.th 1 = some (1, 2, [120, 121]) ∧ W3.newE [] [100] 1 = 0 ∧ W3.last = 1 := by decide +kernel
theorem aw5 : W4.walkP 0 ([] ++ [[100]]) = (2, 0) ∧ W4.vacE [[100]] [101] = 0 := by decide +kernel
theorem cw0 : TokC W0 0 := newTr_ok 9 (by omega)
theorem cw1 : TokC W1 3 := newT_ok cw0 (by omega) aw1 (by decide) 1
theorem cw2 : TokC W2 4 := changeT_ok cw1 (by omega) aw2.2.1 (by decide)
theorem cw3 : TokC W3 6 := linkT_ok cw2 (by omega) aw3.2.2.1 (by rw [aw3.2.2.2.2]; decide) aw3.2.2.2.1 (by decide)
theorem cw4 : TokC W4 9 := newT_ok cw3 (by omega) aw4.2.2.1 (by decide) 2
theorem pw1 : pathOf ([] ++ [[97]]) = [47, 97] := by decide
theorem pw2 : pathOf [[97]] = [47, 97] := by decide
theorem pw3 : pathOf ([] ++ [[98]]) = [47, 98] := by decide
theorem pw4 : pathOf [[98]] = [47, 98] := by decide
theorem pw5 : pathOf ([] ++ [[100]]) = [47, 100] := by decide
theorem pw6 : pathOf ([[100]] ++ [[101]]) = [47, 100, 47, 101] := by decide
theorem no2r (e k l s f : Int) (d : List UInt8) : ∀ x, (#[.int .i64 e, .string (str d), .slice none 0 0, .int .i64 k, .int .i64 l, .int .i64 s, .int .i64 f] : Array Value)[2]? ≠ some (.map x) := fun x h => by cases h
set_option maxRecDepth 100000 in
set_option maxHeartbeats 8000000 in
theorem awk16_any (w : World) (hm : Mx w) :
    Calls Tryz.prog 6 #[] w fun e w' => e = .returned (.bool true) ∧ Below w.heap.size w w' := by
  have HM := Lib.hid hm
  clear hm
  go_enter Tryz.func6, Tryz.ntmps6
  go_wp2_with fail
  refine (TNew_any 9 w HM.out).mono ?_
  rw [show clampR 9 = 9 from by decide]
  rintro e u0 ⟨b, rfl, hbw, h0, hb⟩
  have H0 : Hid (IsT u0 b none none 0 W0) := Lib.hid h0
  have F0 : Hid (Fresh w u0 b none none) := Lib.hid ⟨hb, fun g hg => by
    rcases hg with e | e | e
    · omega
    · cases e
    · cases e⟩
  clear h0 hb hbw
  have hd := do_1 H0.out cw0 (by omega) (by omega) (HM.out.below F0.out.below) 0 0 [] [] [] [97] ⟨by decide, by decide⟩ (by decide)
  rw [pw1, aw1, if_pos rfl] at hd
  have HD := Lib.hid hd
  clear hd
  go_wp2_with fail
  rw [show (⟨#[47, 97]⟩ : ByteArray) = str [47, 97] from rfl]
  refine HD.out.mono ?_
  rintro e u1 ⟨rfl, mt1, ml1, h, t⟩
  have H1 : Hid (IsT u1 b mt1 ml1 2 W1) := Lib.hid h
  have F1 := Lib.hid (F0.out.next t)
  clear h t HD
  go_upto_region 5 with (fail)
  obtain ⟨v1, Hv1⟩ : ∃ u, Hid (u1.alloc (.cells #[.int .i64 0, .string (str []), .slice none 0 0, .int .i64 0, .int .i64 0, .int .i64 0, .int .i64 0] 29) = u) := ⟨_, Lib.hid rfl⟩
  obtain ⟨r1, Hr1⟩ : ∃ u, Hid (u1.heap.size = u) := ⟨_, Lib.hid rfl⟩
  have X1_1b : Hid (BoxC v1 r1 #[.int .i64 0, .string (str []), .slice none 0 0, .int .i64 0, .int .i64 0, .int .i64 0, .int .i64 0] 29) := Lib.hid (by rw [← Hv1.out, ← Hr1.out]; exact BoxC.new u1 _ _)
  have hbv : Below u1.heap.size u1 v1 := by rw [← Hv1.out]; exact balloc (Below.refl _ _) _
  have H1b := Lib.hid (H1.out.below hbv)
  have F1b := Lib.hid (F1.out.more hbv)
  clear hbv
  rw [Hv1.out, Hr1.out]
  have hd := do_7 H1b.out cw1 (by omega) (by omega) (HM.out.below F1b.out.below) 0 0 [120, 121] [] [[97]] ⟨by decide, by decide⟩ (by decide) (by decide) (by omega) (by decide) 1 aw2.1 (1, 1, []) aw2.2.1 (by rw [aw2.2.2.2]; decide) 0 rfl 2 (by omega) (by decide)
  rw [pw2, aw2.2.2.1, if_pos rfl] at hd
  have HD := Lib.hid hd
  clear hd
  go_wp2_with fail
  rw [show (⟨#[47, 97]⟩ : ByteArray) = str [47, 97] from rfl]
  rw [show (⟨#[120, 121]⟩ : ByteArray) = str [120, 121] from rfl]
  refine HD.out.mono ?_
  rintro e u2 ⟨rfl, mt2, ml2, h, t⟩
  have H2 : Hid (IsT u2 b mt2 ml2 4 W2) := Lib.hid h
  have F2 := Lib.hid (F1b.out.next t)
  have X1_2 := Lib.hid (X1_1b.out.kept t.mod (H1b.out.notOwn X1_1b.out (fun x h => by cases h)))
  clear h t HD
  go_upto_region 6 with (fail)
  obtain ⟨v2, Hv2⟩ : ∃ u, Hid (u2.alloc (.cells #[.int .i64 0, .string (str []), .slice none 0 0, .int .i64 0, .int .i64 0, .int .i64 0, .int .i64 0] 29) = u) := ⟨_, Lib.hid rfl⟩
  obtain ⟨r2, Hr2⟩ : ∃ u, Hid (u2.heap.size = u) := ⟨_, Lib.hid rfl⟩
  have X2_2b : Hid (BoxC v2 r2 #[.int .i64 0, .string (str []), .slice none 0 0, .int .i64 0, .int .i64 0, .int .i64 0, .int .i64 0] 29) := Lib.hid (by rw [← Hv2.out, ← Hr2.out]; exact BoxC.new u2 _ _)
  have hbv : Below u2.heap.size u2 v2 := by rw [← Hv2.out]; exact balloc (Below.refl _ _) _
  have X1_2b := Lib.hid (X1_2.out.below hbv)
  have H2b := Lib.hid (H2.out.below hbv)
  have F2b := Lib.hid (F2.out.more hbv)
  clear hbv
  rw [Hv2.out, Hr2.out]
  have hd := do_12 H2b.out cw2 (by omega) (by omega) (HM.out.below F2b.out.below) 0 0 [] [] []
  rw [aw3.1] at hd
  have HD := Lib.hid hd
  clear hd
  go_wp2_with fail
  refine HD.out.mono ?_
  rintro e u3 ⟨rfl, mt3, ml3, h, t⟩
  have H3 : Hid (IsT u3 b mt3 ml3 6 W2) := Lib.hid h
  have F3 := Lib.hid (F2b.out.next t)
  have X1_3 := Lib.hid (X1_2b.out.kept t.mod (H2b.out.notOwn X1_2b.out (fun x h => by cases h)))
  have X2_3 := Lib.hid (X2_2b.out.kept t.mod (H2b.out.notOwn X2_2b.out (fun x h => by cases h)))
  clear h t HD
  go_upto_region 7 with (fail)
  obtain ⟨v3, Hv3⟩ : ∃ u, Hid (u3.alloc (.cells #[.int .i64 0, .string (str []), .slice none 0 0, .int .i64 0, .int .i64 0, .int .i64 0, .int .i64 6] 29) = u) := ⟨_, Lib.hid rfl⟩
  obtain ⟨r3, Hr3⟩ : ∃ u, Hid (u3.heap.size = u) := ⟨_, Lib.hid rfl⟩
  have X3_3b : Hid (BoxC v3 r3 #[.int .i64 0, .string (str []), .slice none 0 0, .int .i64 0, .int .i64 0, .int .i64 0, .int .i64 6] 29) := Lib.hid (by rw [← Hv3.out, ← Hr3.out]; exact BoxC.new u3 _ _)
  have hbv : Below u3.heap.size u3 v3 := by rw [← Hv3.out]; exact balloc (Below.refl _ _) _
  have X1_3b := Lib.hid (X1_3.out.below hbv)
  have X2_3b := Lib.hid (X2_3.out.below hbv)
  have H3b := Lib.hid (H3.out.below hbv)
  have F3b := Lib.hid (F3.out.more hbv)
  clear hbv
  rw [Hv3.out, Hr3.out]
  have hd := do_3 H3b.out cw2 (by omega) (by omega) (HM.out.below F3b.out.below) 0 0 [] [[97]] ⟨by decide, by decide⟩ (by decide) (by decide) [] [98] ⟨by decide, by decide⟩ (by decide) 1 aw3.2.1 (1, 1, [120, 121]) aw3.2.2.1 (by rw [aw3.2.2.2.2]; decide)
  rw [pw2, pw3, aw3.2.2.2.1, if_pos rfl] at hd
  have HD := Lib.hid hd
  clear hd
  go_wp2_with fail
  rw [show (⟨#[47, 97]⟩ : ByteArray) = str [47, 97] from rfl]
  rw [show (⟨#[47, 98]⟩ : ByteArray) = str [47, 98] from rfl]
  refine HD.out.mono ?_
  rintro e u4 ⟨rfl, mt4, ml4, h, t⟩
  have H4 : Hid (IsT u4 b mt4 ml4 8 W3) := Lib.hid h
  have F4 := Lib.hid (F3b.out.next t)
  have X1_4 := Lib.hid (X1_3b.out.kept t.mod (H3b.out.notOwn X1_3b.out (fun x h => by cases h)))
  have X2_4 := Lib.hid (X2_3b.out.kept t.mod (H3b.out.notOwn X2_3b.out (fun x h => by cases h)))
  have X3_4 := Lib.hid (X3_3b.out.kept t.mod (H3b.out.notOwn X3_3b.out (fun x h => by cases h)))
  clear h t HD
  go_upto_region 8 with (fail)
  obtain ⟨v4, Hv4⟩ : ∃ u, Hid (u4.alloc (.cells #[.int .i64 0, .string (str []), .slice none 0 0, .int .i64 0, .int .i64 0, .int .i64 0, .int .i64 0] 29) = u) := ⟨_, Lib.hid rfl⟩
  obtain ⟨r4, Hr4⟩ : ∃ u, Hid (u4.heap.size = u) := ⟨_, Lib.hid rfl⟩
  have X4_4b : Hid (BoxC v4 r4 #[.int .i64 0, .string (str []), .slice none 0 0, .int .i64 0, .int .i64 0, .int .i64 0, .int .i64 0] 29) := Lib.hid (by rw [← Hv4.out, ← Hr4.out]; exact BoxC.new u4 _ _)
  have hbv : Below u4.heap.size u4 v4 := by rw [← Hv4.out]; exact balloc (Below.refl _ _) _
  have X1_4b := Lib.hid (X1_4.out.below hbv)
  have X2_4b := Lib.hid (X2_4.out.below hbv)
  have X3_4b := Lib.hid (X3_4.out.below hbv)
  have H4b := Lib.hid (H4.out.below hbv)
  have F4b := Lib.hid (F4.out.more hbv)
  clear hbv
  rw [Hv4.out, Hr4.out]
  have hd := do_10 H4b.out cw3 (by omega) (by omega) (HM.out.below F4b.out.below) 0 0 [] [] [[98]] ⟨by decide, by decide⟩ (by decide) (by decide) 1 aw4.1 (1, 2, [120, 121]) aw4.2.1 (by rw [aw4.2.2.2]; decide) rfl
  rw [pw4] at hd
  have HD := Lib.hid hd
  clear hd
  go_wp2_with fail
  rw [show (⟨#[47, 98]⟩ : ByteArray) = str [47, 98] from rfl]
  refine HD.out.mono ?_
  rintro e u5 ⟨rfl, mt5, ml5, h, t⟩
  have H5 : Hid (IsT u5 b mt5 ml5 10 W3) := Lib.hid h
  have F5 := Lib.hid (F4b.out.next t)
  have X1_5 := Lib.hid (X1_4b.out.kept t.mod (H4b.out.notOwn X1_4b.out (fun x h => by cases h)))
  have X2_5 := Lib.hid (X2_4b.out.kept t.mod (H4b.out.notOwn X2_4b.out (fun x h => by cases h)))
  have X3_5 := Lib.hid (X3_4b.out.kept t.mod (H4b.out.notOwn X3_4b.out (fun x h => by cases h)))
  have X4_5 := Lib.hid (X4_4b.out.kept t.mod (H4b.out.notOwn X4_4b.out (fun x h => by cases h)))
  clear h t HD
  go_upto_region 9 with (fail)
  obtain ⟨v5, Hv5⟩ : ∃ u, Hid (u5.alloc (.cells #[.int .i64 0, .string (str []), .slice none 0 0, .int .i64 1, .int .i64 2, .int .i64 2, .int .i64 0] 29) = u) := ⟨_, Lib.hid rfl⟩
  obtain ⟨r5, Hr5⟩ : ∃ u, Hid (u5.heap.size = u) := ⟨_, Lib.hid rfl⟩
  have X5_5b : Hid (BoxC v5 r5 #[.int .i64 0, .string (str []), .slice none 0 0, .int .i64 1, .int .i64 2, .int .i64 2, .int .i64 0] 29) := Lib.hid (by rw [← Hv5.out, ← Hr5.out]; exact BoxC.new u5 _ _)
  have hbv : Below u5.heap.size u5 v5 := by rw [← Hv5.out]; exact balloc (Below.refl _ _) _
  have X1_5b := Lib.hid (X1_5.out.below hbv)
  have X2_5b := Lib.hid (X2_5.out.below hbv)
  have X3_5b := Lib.hid (X3_5.out.below hbv)
  have X4_5b := Lib.hid (X4_5.out.below hbv)
  have H5b := Lib.hid (H5.out.below hbv)
  have F5b := Lib.hid (F5.out.more hbv)
  clear hbv
  rw [Hv5.out, Hr5.out]
  have hd := do_2 H5b.out cw3 (by omega) (by omega) (HM.out.below F5b.out.below) 0 0 [] [] [] [100] ⟨by decide, by decide⟩ (by decide)
  rw [pw5, aw4.2.2.1, if_pos rfl] at hd
  have HD := Lib.hid hd
  clear hd
  go_wp2_with fail
  rw [show (⟨#[47, 100]⟩ : ByteArray) = str [47, 100] from rfl]
  refine HD.out.mono ?_
  rintro e u6 ⟨rfl, mt6, ml6, h, t⟩
  have H6 : Hid (IsT u6 b mt6 ml6 12 W4) := Lib.hid h
  have F6 := Lib.hid (F5b.out.next t)
  have X1_6 := Lib.hid (X1_5b.out.kept t.mod (H5b.out.notOwn X1_5b.out (fun x h => by cases h)))
  have X2_6 := Lib.hid (X2_5b.out.kept t.mod (H5b.out.notOwn X2_5b.out (fun x h => by cases h)))
  have X3_6 := Lib.hid (X3_5b.out.kept t.mod (H5b.out.notOwn X3_5b.out (fun x h => by cases h)))
  have X4_6 := Lib.hid (X4_5b.out.kept t.mod (H5b.out.notOwn X4_5b.out (fun x h => by cases h)))
  have X5_6 := Lib.hid (X5_5b.out.kept t.mod (H5b.out.notOwn X5_5b.out (fun x h => by cases h)))
  clear h t HD
  go_upto_region 10 with (fail)
  obtain ⟨v6, Hv6⟩ : ∃ u, Hid (u6.alloc (.cells #[.int .i64 0, .string (str []), .slice none 0 0, .int .i64 0, .int .i64 0, .int .i64 0, .int .i64 0] 29) = u) := ⟨_, Lib.hid rfl⟩
  obtain ⟨r6, Hr6⟩ : ∃ u, Hid (u6.heap.size = u) := ⟨_, Lib.hid rfl⟩
  have X6_6b : Hid (BoxC v6 r6 #[.int .i64 0, .string (str []), .slice none 0 0, .int .i64 0, .int .i64 0, .int .i64 0, .int .i64 0] 29) := Lib.hid (by rw [← Hv6.out, ← Hr6.out]; exact BoxC.new u6 _ _)
  have hbv : Below u6.heap.size u6 v6 := by rw [← Hv6.out]; exact balloc (Below.refl _ _) _
  have X1_6b := Lib.hid (X1_6.out.below hbv)
  have X2_6b := Lib.hid (X2_6.out.below hbv)
  have X3_6b := Lib.hid (X3_6.out.below hbv)
  have X4_6b := Lib.hid (X4_6.out.below hbv)
  have X5_6b := Lib.hid (X5_6.out.below hbv)
  have H6b := Lib.hid (H6.out.below hbv)
  have F6b := Lib.hid (F6.out.more hbv)
  clear hbv
  rw [Hv6.out, Hr6.out]
  have hd := do_5 H6b.out cw4 (by omega) (by omega) (HM.out.below F6b.out.below) 0 0 [] [] [100] ⟨by decide, by decide⟩ (by decide) [[100]] [101] ⟨by decide, by decide⟩ (by decide) 2 aw5.1 aw5.2 (by decide) (by decide)
  rw [pw5, pw6] at hd
  have HD := Lib.hid hd
  clear hd
  go_wp2_with fail
  rw [show (⟨#[47, 100]⟩ : ByteArray) = str [47, 100] from rfl]
  rw [show (⟨#[47, 100, 47, 101]⟩ : ByteArray) = str [47, 100, 47, 101] from rfl]
  refine HD.out.mono ?_
  rintro e u7 ⟨rfl, mt7, ml7, h, t⟩
  have H7 : Hid (IsT u7 b mt7 ml7 14 W4) := Lib.hid h
  have F7 := Lib.hid (F6b.out.next t)
  have X1_7 := Lib.hid (X1_6b.out.kept t.mod (H6b.out.notOwn X1_6b.out (fun x h => by cases h)))
  have X2_7 := Lib.hid (X2_6b.out.kept t.mod (H6b.out.notOwn X2_6b.out (fun x h => by cases h)))
  have X3_7 := Lib.hid (X3_6b.out.kept t.mod (H6b.out.notOwn X3_6b.out (fun x h => by cases h)))
  have X4_7 := Lib.hid (X4_6b.out.kept t.mod (H6b.out.notOwn X4_6b.out (fun x h => by cases h)))
  have X5_7 := Lib.hid (X5_6b.out.kept t.mod (H6b.out.notOwn X5_6b.out (fun x h => by cases h)))
  have X6_7 := Lib.hid (X6_6b.out.kept t.mod (H6b.out.notOwn X6_6b.out (fun x h => by cases h)))
  clear h t HD
  go_upto_region 11 with (fail)
  obtain ⟨v7, Hv7⟩ : ∃ u, Hid (u7.alloc (.cells #[.int .i64 1, .string (str []), .slice none 0 0, .int .i64 0, .int .i64 0, .int .i64 0, .int .i64 0] 29) = u) := ⟨_, Lib.hid rfl⟩
  obtain ⟨r7, Hr7⟩ : ∃ u, Hid (u7.heap.size = u) := ⟨_, Lib.hid rfl⟩
  have X7_7b : Hid (BoxC v7 r7 #[.int .i64 1, .string (str []), .slice none 0 0, .int .i64 0, .int .i64 0, .int .i64 0, .int .i64 0] 29) := Lib.hid (by rw [← Hv7.out, ← Hr7.out]; exact BoxC.new u7 _ _)
  have hbv : Below u7.heap.size u7 v7 := by rw [← Hv7.out]; exact balloc (Below.refl _ _) _
  have X1_7b := Lib.hid (X1_7.out.below hbv)
  have X2_7b := Lib.hid (X2_7.out.below hbv)
  have X3_7b := Lib.hid (X3_7.out.below hbv)
  have X4_7b := Lib.hid (X4_7.out.below hbv)
  have X5_7b := Lib.hid (X5_7.out.below hbv)
  have X6_7b := Lib.hid (X6_7.out.below hbv)
  have H7b := Lib.hid (H7.out.below hbv)
  have F7b := Lib.hid (F7.out.more hbv)
  clear hbv
  rw [Hv7.out, Hr7.out]
  have y1_0 := X1_7b.out.cell 0 rfl
  have y2_0 := X2_7b.out.cell 0 rfl
  have y3_6 := X3_7b.out.cell 6 rfl
  have y4_0 := X4_7b.out.cell 0 rfl
  have y5_4 := X5_7b.out.cell 4 rfl
  have y5_5 := X5_7b.out.cell 5 rfl
  have y6_0 := X6_7b.out.cell 0 rfl
  have y7_0 := X7_7b.out.cell 0 rfl
  go_wp2
  go_ret
  exact ⟨rfl, F7b.out.below⟩
end Go.Proofs.YtiomhdanmcnaeaaGreatDoor
