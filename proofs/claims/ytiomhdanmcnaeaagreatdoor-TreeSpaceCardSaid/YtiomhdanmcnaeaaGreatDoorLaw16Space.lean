/- A file alone in the root takes a sector for itself, one for the list, and as many as its bytes need: TreeSpace. -/
import Derived.Test.YtiomhdanmcnaeaaGreatDoorTied16
import Derived.Test.YtiomhdanmcnaeaaGreatDoorUp16

namespace Go.Proofs.YtiomhdanmcnaeaaGreatDoor.treeSpace
open Go.RowKit Go.ChangeShapes Go.WideShapes Go.ChangeAt
open Go.ChangeMaps (open_string shut_string)

def fl : List UInt8 := [102, 105, 108, 101]
def S1 (k : Int) : Tr := (newTr k).newT [] fl 1
def S2 (k : Int) (sz : Nat) : Tr := (S1 k).changeT 1 (sized [] sz)
def S3 (k : Int) (sz : Nat) : Tr := (S2 k sz).unlinkT 1 [] fl
theorem pf1 : pathOf ([] ++ [fl]) = [47, 102, 105, 108, 101] := by decide
theorem pf2 : pathOf [fl] = [47, 102, 105, 108, 101] := by decide
theorem s0e (k : Int) : (newTr k).newE [] fl 1 = if k < 2 then 15 else 0 := by
  have e : (newTr k).newE [] fl 1 = if k < moreI 0 10 + 1 then 15 else 0 := by kernel_rfl
  rw [e, show moreI 0 10 + 1 = 2 by decide]
theorem s1f (k : Int) : (S1 k).free = k - 2 := by
  have e : (S1 k).free = k + 0 - (1 + needI 0) - moreI 0 10 := by kernel_rfl
  rw [e, show moreI 0 10 = 1 by decide, show needI 0 = 0 by decide]
  omega
theorem s1w (k : Int) : (S1 k).walkP 0 [fl] = (1, 0) := by kernel_rfl
theorem s1t (k : Int) : (S1 k).th 1 = some (1, 1, []) := by kernel_rfl
theorem s1l (k : Int) : (S1 k).last = 1 := by kernel_rfl
theorem s1e (k : Int) (sz : Nat) : (S1 k).changeE 1 sz = if k - 2 < needI (sz : Int) then 15 else 0 := by
  have e : (S1 k).changeE 1 sz = if (S1 k).free < moreI 0 (sz : Int) then 15 else 0 := by kernel_rfl
  rw [e, s1f, show moreI 0 (sz : Int) = needI (sz : Int) from by rw [moreI, show needI 0 = 0 by decide]; omega]
theorem s2f (k : Int) (sz : Nat) : (S2 k sz).free = k - 2 - needI (sz : Int) := by
  have e : (S2 k sz).free = (S1 k).free + (1 + needI 0) - (1 + needI ((sized [] sz).length : Int)) := by kernel_rfl
  rw [e, s1f, sized_len, show needI 0 = 0 by decide]
  omega
theorem s2w (k : Int) (sz : Nat) : (S2 k sz).walkP 0 ([] ++ [fl]) = (1, 0) := by kernel_rfl
theorem s2t (k : Int) (sz : Nat) : (S2 k sz).th 1 = some (1, 1, sized [] sz) := by kernel_rfl
theorem s2l (k : Int) (sz : Nat) : (S2 k sz).last = 1 := by kernel_rfl
theorem s2e (k : Int) (sz : Nat) : (S2 k sz).unlinkE 1 = 0 := by kernel_rfl
theorem s3f (k : Int) (sz : Nat) : (S3 k sz).free = k := by
  have e : (S3 k sz).free = (S2 k sz).free - moreI 10 0 + (1 + needI ((sized [] sz).length : Int)) - 0 := by kernel_rfl
  rw [e, s2f, sized_len, show moreI 10 0 = -1 by decide]
  omega
theorem c0 (k : Int) (h : 0 ≤ k ∧ k ≤ 30) : TokC (newTr k) 0 := newTr_ok k ⟨h.1, by omega⟩
theorem c1 (k : Int) (h : 2 ≤ k ∧ k ≤ 30) : TokC (S1 k) 3 := newT_ok (c0 k ⟨by omega, h.2⟩) (by omega) (by rw [s0e, if_neg (by omega)]) (by decide) 1
theorem c2 (k : Int) (sz : Nat) (h : 2 ≤ k ∧ k ≤ 30) (hz : sz ≤ 6144) : TokC (S2 k sz) 4 := changeT_ok (c1 k h) (by omega) (s1t k) (by rw [sized_len]; exact hz)
theorem clk (k : Int) (h : 0 ≤ k ∧ k ≤ 30) : clampR k = k := by unfold clampR; omega
theorem tb (a m : Int) (hm : 0 < m) : -m < a.tmod m ∧ a.tmod m < m := ⟨Int.lt_tmod_of_pos a hm, Int.tmod_lt_of_pos a hm⟩
theorem need_q (n q : Int) (h : 0 ≤ n ∧ n ≤ 6144) (hq : n.tdiv 512 = q) : (0 < n.tmod 512 ∧ needI n = q + 1 ∨ ¬ 0 < n.tmod 512 ∧ needI n = q) ∧ 0 ≤ q ∧ q ≤ 12 := by
  have e1 : n.tdiv 512 = n / 512 := Int.tdiv_eq_ediv_of_nonneg h.1
  have e2 : n.tmod 512 = n % 512 := Int.tmod_eq_emod_of_nonneg h.1
  unfold needI
  rw [e2]
  rw [e1] at hq
  split <;> omega
set_option maxRecDepth 100000 in
set_option maxHeartbeats 8000000 in
theorem wA11 (size room n k : Int) (w : World) (_ : (Lit.int .i64 size).wf = true) (_ : (Lit.int .i64 room).wf = true) (hm : Mx w) (hs : size.tmod 6145 < 0) (hn : -size.tmod 6145 = n) (hr : room.tmod 31 < 0) (hk : -room.tmod 31 = k) (b1 : 0 ≤ n ∧ n ≤ 6144) (b2 : 0 ≤ k ∧ k < 2) :
    Calls Tryz.prog 5 #[.int .i64 size, .int .i64 room] w fun e w' => e = .returned (.bool true) ∧ Below w.heap.size w w' := by
  have HM := Lib.hid hm
  have HN := Lib.hid hn
  have HK := Lib.hid hk
  have T1 := Lib.hid (tb size 6145 (by omega))
  have T2 := Lib.hid (tb room 31 (by omega))
  have HS := Lib.hid hs
  have HR := Lib.hid hr
  have B1 := Lib.hid b1
  have K2 : Hid (k < 2) := Lib.hid b2.2
  have B2 : Hid (0 ≤ k ∧ k ≤ 30) := Lib.hid (by omega)
  clear hm hn hk hs hr b1 b2
  go_enter Tryz.func5, Tryz.ntmps5
  go_wp2_with fail
  refine (awk16_any w HM.out).mono ?_
  rintro e w1 ⟨rfl, hb0⟩
  have B0 := Lib.hid hb0
  have HM1 := Lib.hid (HM.out.below hb0)
  clear hb0
  have a1 := HS.out
  have a2 := T1.out
  go_upto_region 5 with (fail)
  clear a1 a2
  have a1 := HR.out
  have a2 := T2.out
  go_wp2_with fail
  clear a1 a2
  rw [HN.out, HK.out]
  refine (TNew_any k w1 HM1.out).mono ?_
  rw [clk k (by have := B2.out; omega)]
  rintro e u0 ⟨b, rfl, hbw, h0, hb⟩
  have H0 : Hid (IsT u0 b none none 0 (newTr k)) := Lib.hid h0
  have F0 : Hid (Fresh w1 u0 b none none) := Lib.hid ⟨hb, fun g hg => by
    rcases hg with e | e | e
    · omega
    · cases e
    · cases e⟩
  clear h0 hb hbw
  have hd := do_1 H0.out (c0 k (by have := B2.out; omega)) (by omega) (by omega) (HM1.out.below F0.out.below) 0 0 [] [] [] fl ⟨by decide, by decide⟩ (by decide)
  rw [pf1, s0e, if_pos K2.out, if_neg (by decide)] at hd
  have HD1 := Lib.hid hd
  clear hd
  go_wp2_with fail
  rw [show (⟨#[47, 102, 105, 108, 101]⟩ : ByteArray) = str [47, 102, 105, 108, 101] from rfl]
  refine HD1.out.mono ?_
  rintro e u1 ⟨rfl, mt1, ml1, h, t⟩
  have H1 : Hid (IsT u1 b mt1 ml1 2 (newTr k)) := Lib.hid h
  have F1 := Lib.hid (F0.out.next t)
  clear h t HD1
  go_upto_region 12 with (fail)
  obtain ⟨v1, Hv1⟩ : ∃ u, Hid (u1.alloc (.cells #[.int .i64 15, .string (str []), .slice none 0 0, .int .i64 0, .int .i64 0, .int .i64 0, .int .i64 0] 29) = u) := ⟨_, Lib.hid rfl⟩
  obtain ⟨r1, Hr1⟩ : ∃ u, Hid (u1.heap.size = u) := ⟨_, Lib.hid rfl⟩
  have X1_1b : Hid (BoxC v1 r1 #[.int .i64 15, .string (str []), .slice none 0 0, .int .i64 0, .int .i64 0, .int .i64 0, .int .i64 0] 29) := Lib.hid (by rw [← Hv1.out, ← Hr1.out]; exact BoxC.new u1 _ _)
  have hbv : Below u1.heap.size u1 v1 := by rw [← Hv1.out]; exact balloc (Below.refl _ _) _
  have H1b := Lib.hid (H1.out.below hbv)
  have F1b := Lib.hid (F1.out.more hbv)
  clear hbv
  rw [Hv1.out, Hr1.out]
  have y1 := X1_1b.out.cell 0 rfl
  have a1 := K2.out
  go_wp2_with fail
  refine (Free_any H1b.out).mono ?_
  rw [show (newTr k).free = k from rfl]
  rintro e u ⟨rfl, rfl⟩
  go_wp2
  go_ret
  exact ⟨rfl, B0.out.trans (F1b.out.below.mono B0.out.size)⟩
set_option maxRecDepth 100000 in
set_option maxHeartbeats 8000000 in
theorem wA10 (size room n k : Int) (w : World) (_ : (Lit.int .i64 size).wf = true) (_ : (Lit.int .i64 room).wf = true) (hm : Mx w) (hs : size.tmod 6145 < 0) (hn : -size.tmod 6145 = n) (hr : 0 ≤ room.tmod 31) (hk : room.tmod 31 = k) (b1 : 0 ≤ n ∧ n ≤ 6144) (b2 : 0 ≤ k ∧ k < 2) :
    Calls Tryz.prog 5 #[.int .i64 size, .int .i64 room] w fun e w' => e = .returned (.bool true) ∧ Below w.heap.size w w' := by
  have HM := Lib.hid hm
  have HN := Lib.hid hn
  have HK := Lib.hid hk
  have T1 := Lib.hid (tb size 6145 (by omega))
  have T2 := Lib.hid (tb room 31 (by omega))
  have HS := Lib.hid hs
  have HR := Lib.hid hr
  have B1 := Lib.hid b1
  have K2 : Hid (k < 2) := Lib.hid b2.2
  have B2 : Hid (0 ≤ k ∧ k ≤ 30) := Lib.hid (by omega)
  clear hm hn hk hs hr b1 b2
  go_enter Tryz.func5, Tryz.ntmps5
  go_wp2_with fail
  refine (awk16_any w HM.out).mono ?_
  rintro e w1 ⟨rfl, hb0⟩
  have B0 := Lib.hid hb0
  have HM1 := Lib.hid (HM.out.below hb0)
  clear hb0
  have a1 := HS.out
  have a2 := T1.out
  go_upto_region 5 with (fail)
  clear a1 a2
  have a1 := HR.out
  have a2 := T2.out
  go_wp2_with fail
  clear a1 a2
  rw [HN.out, HK.out]
  refine (TNew_any k w1 HM1.out).mono ?_
  rw [clk k (by have := B2.out; omega)]
  rintro e u0 ⟨b, rfl, hbw, h0, hb⟩
  have H0 : Hid (IsT u0 b none none 0 (newTr k)) := Lib.hid h0
  have F0 : Hid (Fresh w1 u0 b none none) := Lib.hid ⟨hb, fun g hg => by
    rcases hg with e | e | e
    · omega
    · cases e
    · cases e⟩
  clear h0 hb hbw
  have hd := do_1 H0.out (c0 k (by have := B2.out; omega)) (by omega) (by omega) (HM1.out.below F0.out.below) 0 0 [] [] [] fl ⟨by decide, by decide⟩ (by decide)
  rw [pf1, s0e, if_pos K2.out, if_neg (by decide)] at hd
  have HD1 := Lib.hid hd
  clear hd
  go_wp2_with fail
  rw [show (⟨#[47, 102, 105, 108, 101]⟩ : ByteArray) = str [47, 102, 105, 108, 101] from rfl]
  refine HD1.out.mono ?_
  rintro e u1 ⟨rfl, mt1, ml1, h, t⟩
  have H1 : Hid (IsT u1 b mt1 ml1 2 (newTr k)) := Lib.hid h
  have F1 := Lib.hid (F0.out.next t)
  clear h t HD1
  go_upto_region 12 with (fail)
  obtain ⟨v1, Hv1⟩ : ∃ u, Hid (u1.alloc (.cells #[.int .i64 15, .string (str []), .slice none 0 0, .int .i64 0, .int .i64 0, .int .i64 0, .int .i64 0] 29) = u) := ⟨_, Lib.hid rfl⟩
  obtain ⟨r1, Hr1⟩ : ∃ u, Hid (u1.heap.size = u) := ⟨_, Lib.hid rfl⟩
  have X1_1b : Hid (BoxC v1 r1 #[.int .i64 15, .string (str []), .slice none 0 0, .int .i64 0, .int .i64 0, .int .i64 0, .int .i64 0] 29) := Lib.hid (by rw [← Hv1.out, ← Hr1.out]; exact BoxC.new u1 _ _)
  have hbv : Below u1.heap.size u1 v1 := by rw [← Hv1.out]; exact balloc (Below.refl _ _) _
  have H1b := Lib.hid (H1.out.below hbv)
  have F1b := Lib.hid (F1.out.more hbv)
  clear hbv
  rw [Hv1.out, Hr1.out]
  have y1 := X1_1b.out.cell 0 rfl
  have a1 := K2.out
  go_wp2_with fail
  refine (Free_any H1b.out).mono ?_
  rw [show (newTr k).free = k from rfl]
  rintro e u ⟨rfl, rfl⟩
  go_wp2
  go_ret
  exact ⟨rfl, B0.out.trans (F1b.out.below.mono B0.out.size)⟩
set_option maxRecDepth 100000 in
set_option maxHeartbeats 8000000 in
theorem wA01 (size room n k : Int) (w : World) (_ : (Lit.int .i64 size).wf = true) (_ : (Lit.int .i64 room).wf = true) (hm : Mx w) (hs : 0 ≤ size.tmod 6145) (hn : size.tmod 6145 = n) (hr : room.tmod 31 < 0) (hk : -room.tmod 31 = k) (b1 : 0 ≤ n ∧ n ≤ 6144) (b2 : 0 ≤ k ∧ k < 2) :
    Calls Tryz.prog 5 #[.int .i64 size, .int .i64 room] w fun e w' => e = .returned (.bool true) ∧ Below w.heap.size w w' := by
  have HM := Lib.hid hm
  have HN := Lib.hid hn
  have HK := Lib.hid hk
  have T1 := Lib.hid (tb size 6145 (by omega))
  have T2 := Lib.hid (tb room 31 (by omega))
  have HS := Lib.hid hs
  have HR := Lib.hid hr
  have B1 := Lib.hid b1
  have K2 : Hid (k < 2) := Lib.hid b2.2
  have B2 : Hid (0 ≤ k ∧ k ≤ 30) := Lib.hid (by omega)
  clear hm hn hk hs hr b1 b2
  go_enter Tryz.func5, Tryz.ntmps5
  go_wp2_with fail
  refine (awk16_any w HM.out).mono ?_
  rintro e w1 ⟨rfl, hb0⟩
  have B0 := Lib.hid hb0
  have HM1 := Lib.hid (HM.out.below hb0)
  clear hb0
  have a1 := HS.out
  have a2 := T1.out
  go_upto_region 5 with (fail)
  clear a1 a2
  have a1 := HR.out
  have a2 := T2.out
  go_wp2_with fail
  clear a1 a2
  rw [HN.out, HK.out]
  refine (TNew_any k w1 HM1.out).mono ?_
  rw [clk k (by have := B2.out; omega)]
  rintro e u0 ⟨b, rfl, hbw, h0, hb⟩
  have H0 : Hid (IsT u0 b none none 0 (newTr k)) := Lib.hid h0
  have F0 : Hid (Fresh w1 u0 b none none) := Lib.hid ⟨hb, fun g hg => by
    rcases hg with e | e | e
    · omega
    · cases e
    · cases e⟩
  clear h0 hb hbw
  have hd := do_1 H0.out (c0 k (by have := B2.out; omega)) (by omega) (by omega) (HM1.out.below F0.out.below) 0 0 [] [] [] fl ⟨by decide, by decide⟩ (by decide)
  rw [pf1, s0e, if_pos K2.out, if_neg (by decide)] at hd
  have HD1 := Lib.hid hd
  clear hd
  go_wp2_with fail
  rw [show (⟨#[47, 102, 105, 108, 101]⟩ : ByteArray) = str [47, 102, 105, 108, 101] from rfl]
  refine HD1.out.mono ?_
  rintro e u1 ⟨rfl, mt1, ml1, h, t⟩
  have H1 : Hid (IsT u1 b mt1 ml1 2 (newTr k)) := Lib.hid h
  have F1 := Lib.hid (F0.out.next t)
  clear h t HD1
  go_upto_region 12 with (fail)
  obtain ⟨v1, Hv1⟩ : ∃ u, Hid (u1.alloc (.cells #[.int .i64 15, .string (str []), .slice none 0 0, .int .i64 0, .int .i64 0, .int .i64 0, .int .i64 0] 29) = u) := ⟨_, Lib.hid rfl⟩
  obtain ⟨r1, Hr1⟩ : ∃ u, Hid (u1.heap.size = u) := ⟨_, Lib.hid rfl⟩
  have X1_1b : Hid (BoxC v1 r1 #[.int .i64 15, .string (str []), .slice none 0 0, .int .i64 0, .int .i64 0, .int .i64 0, .int .i64 0] 29) := Lib.hid (by rw [← Hv1.out, ← Hr1.out]; exact BoxC.new u1 _ _)
  have hbv : Below u1.heap.size u1 v1 := by rw [← Hv1.out]; exact balloc (Below.refl _ _) _
  have H1b := Lib.hid (H1.out.below hbv)
  have F1b := Lib.hid (F1.out.more hbv)
  clear hbv
  rw [Hv1.out, Hr1.out]
  have y1 := X1_1b.out.cell 0 rfl
  have a1 := K2.out
  go_wp2_with fail
  refine (Free_any H1b.out).mono ?_
  rw [show (newTr k).free = k from rfl]
  rintro e u ⟨rfl, rfl⟩
  go_wp2
  go_ret
  exact ⟨rfl, B0.out.trans (F1b.out.below.mono B0.out.size)⟩
set_option maxRecDepth 100000 in
set_option maxHeartbeats 8000000 in
theorem wA00 (size room n k : Int) (w : World) (_ : (Lit.int .i64 size).wf = true) (_ : (Lit.int .i64 room).wf = true) (hm : Mx w) (hs : 0 ≤ size.tmod 6145) (hn : size.tmod 6145 = n) (hr : 0 ≤ room.tmod 31) (hk : room.tmod 31 = k) (b1 : 0 ≤ n ∧ n ≤ 6144) (b2 : 0 ≤ k ∧ k < 2) :
    Calls Tryz.prog 5 #[.int .i64 size, .int .i64 room] w fun e w' => e = .returned (.bool true) ∧ Below w.heap.size w w' := by
  have HM := Lib.hid hm
  have HN := Lib.hid hn
  have HK := Lib.hid hk
  have T1 := Lib.hid (tb size 6145 (by omega))
  have T2 := Lib.hid (tb room 31 (by omega))
  have HS := Lib.hid hs
  have HR := Lib.hid hr
  have B1 := Lib.hid b1
  have K2 : Hid (k < 2) := Lib.hid b2.2
  have B2 : Hid (0 ≤ k ∧ k ≤ 30) := Lib.hid (by omega)
  clear hm hn hk hs hr b1 b2
  go_enter Tryz.func5, Tryz.ntmps5
  go_wp2_with fail
  refine (awk16_any w HM.out).mono ?_
  rintro e w1 ⟨rfl, hb0⟩
  have B0 := Lib.hid hb0
  have HM1 := Lib.hid (HM.out.below hb0)
  clear hb0
  have a1 := HS.out
  have a2 := T1.out
  go_upto_region 5 with (fail)
  clear a1 a2
  have a1 := HR.out
  have a2 := T2.out
  go_wp2_with fail
  clear a1 a2
  rw [HN.out, HK.out]
  refine (TNew_any k w1 HM1.out).mono ?_
  rw [clk k (by have := B2.out; omega)]
  rintro e u0 ⟨b, rfl, hbw, h0, hb⟩
  have H0 : Hid (IsT u0 b none none 0 (newTr k)) := Lib.hid h0
  have F0 : Hid (Fresh w1 u0 b none none) := Lib.hid ⟨hb, fun g hg => by
    rcases hg with e | e | e
    · omega
    · cases e
    · cases e⟩
  clear h0 hb hbw
  have hd := do_1 H0.out (c0 k (by have := B2.out; omega)) (by omega) (by omega) (HM1.out.below F0.out.below) 0 0 [] [] [] fl ⟨by decide, by decide⟩ (by decide)
  rw [pf1, s0e, if_pos K2.out, if_neg (by decide)] at hd
  have HD1 := Lib.hid hd
  clear hd
  go_wp2_with fail
  rw [show (⟨#[47, 102, 105, 108, 101]⟩ : ByteArray) = str [47, 102, 105, 108, 101] from rfl]
  refine HD1.out.mono ?_
  rintro e u1 ⟨rfl, mt1, ml1, h, t⟩
  have H1 : Hid (IsT u1 b mt1 ml1 2 (newTr k)) := Lib.hid h
  have F1 := Lib.hid (F0.out.next t)
  clear h t HD1
  go_upto_region 12 with (fail)
  obtain ⟨v1, Hv1⟩ : ∃ u, Hid (u1.alloc (.cells #[.int .i64 15, .string (str []), .slice none 0 0, .int .i64 0, .int .i64 0, .int .i64 0, .int .i64 0] 29) = u) := ⟨_, Lib.hid rfl⟩
  obtain ⟨r1, Hr1⟩ : ∃ u, Hid (u1.heap.size = u) := ⟨_, Lib.hid rfl⟩
  have X1_1b : Hid (BoxC v1 r1 #[.int .i64 15, .string (str []), .slice none 0 0, .int .i64 0, .int .i64 0, .int .i64 0, .int .i64 0] 29) := Lib.hid (by rw [← Hv1.out, ← Hr1.out]; exact BoxC.new u1 _ _)
  have hbv : Below u1.heap.size u1 v1 := by rw [← Hv1.out]; exact balloc (Below.refl _ _) _
  have H1b := Lib.hid (H1.out.below hbv)
  have F1b := Lib.hid (F1.out.more hbv)
  clear hbv
  rw [Hv1.out, Hr1.out]
  have y1 := X1_1b.out.cell 0 rfl
  have a1 := K2.out
  go_wp2_with fail
  refine (Free_any H1b.out).mono ?_
  rw [show (newTr k).free = k from rfl]
  rintro e u ⟨rfl, rfl⟩
  go_wp2
  go_ret
  exact ⟨rfl, B0.out.trans (F1b.out.below.mono B0.out.size)⟩
set_option maxRecDepth 100000 in
set_option maxHeartbeats 8000000 in
theorem wB111 (size room n k : Int) (w : World) (_ : (Lit.int .i64 size).wf = true) (_ : (Lit.int .i64 room).wf = true) (hm : Mx w) (hs : size.tmod 6145 < 0) (hn : -size.tmod 6145 = n) (hr : room.tmod 31 < 0) (hk : -room.tmod 31 = k) (b1 : 0 ≤ n ∧ n ≤ 6144) (b2 : 2 ≤ k ∧ k ≤ 30) (q : Int) (bq : 0 ≤ q ∧ q ≤ 12) (hq : n.tdiv 512 = q) (hx : 0 < n.tmod 512) (hd : needI n = q + 1) (hf : q + 1 > k - 2) (sz : Nat) (hz : n = (sz : Int)) :
    Calls Tryz.prog 5 #[.int .i64 size, .int .i64 room] w fun e w' => e = .returned (.bool true) ∧ Below w.heap.size w w' := by
  have HM := Lib.hid hm
  have HN := Lib.hid hn
  have HK := Lib.hid hk
  have T1 := Lib.hid (tb size 6145 (by omega))
  have T2 := Lib.hid (tb room 31 (by omega))
  have HS := Lib.hid hs
  have HR := Lib.hid hr
  have B1 := Lib.hid b1
  have K2 : Hid (¬ k < 2) := Lib.hid (by omega)
  have B2 : Hid (2 ≤ k ∧ k ≤ 30) := Lib.hid b2
  have HZ := Lib.hid hz
  have HQ := Lib.hid hq
  have HD := Lib.hid hd
  have HSZ : Hid (sz ≤ 6144) := Lib.hid (by omega)
  have BQ := Lib.hid bq
  obtain ⟨r, Hr⟩ : ∃ r, Hid (n.tmod 512 = r) := ⟨_, Lib.hid rfl⟩
  have T3 := Lib.hid (tb n 512 (by omega))
  rw [Hr.out] at T3 hx
  have HX := Lib.hid hx
  have FK : Hid (k - 2 < q + 1) := Lib.hid (by omega)
  clear hz hq hd bq hx hf
  clear hm hn hk hs hr b1 b2
  go_enter Tryz.func5, Tryz.ntmps5
  go_wp2_with fail
  refine (awk16_any w HM.out).mono ?_
  rintro e w1 ⟨rfl, hb0⟩
  have B0 := Lib.hid hb0
  have HM1 := Lib.hid (HM.out.below hb0)
  clear hb0
  have a1 := HS.out
  have a2 := T1.out
  go_upto_region 5 with (fail)
  clear a1 a2
  have a1 := HR.out
  have a2 := T2.out
  go_wp2_with fail
  clear a1 a2
  rw [HN.out, HK.out]
  refine (TNew_any k w1 HM1.out).mono ?_
  rw [clk k (by have := B2.out; omega)]
  rintro e u0 ⟨b, rfl, hbw, h0, hb⟩
  have H0 : Hid (IsT u0 b none none 0 (newTr k)) := Lib.hid h0
  have F0 : Hid (Fresh w1 u0 b none none) := Lib.hid ⟨hb, fun g hg => by
    rcases hg with e | e | e
    · omega
    · cases e
    · cases e⟩
  clear h0 hb hbw
  have hd := do_1 H0.out (c0 k (by have := B2.out; omega)) (by omega) (by omega) (HM1.out.below F0.out.below) 0 0 [] [] [] fl ⟨by decide, by decide⟩ (by decide)
  rw [pf1, s0e, if_neg (by have := K2.out; omega : ¬ k < 2), if_pos rfl] at hd
  have HD1 := Lib.hid hd
  clear hd
  go_wp2_with fail
  rw [show (⟨#[47, 102, 105, 108, 101]⟩ : ByteArray) = str [47, 102, 105, 108, 101] from rfl]
  refine HD1.out.mono ?_
  rintro e u1 ⟨rfl, mt1, ml1, h, t⟩
  have H1 : Hid (IsT u1 b mt1 ml1 2 (S1 k)) := Lib.hid h
  have F1 := Lib.hid (F0.out.next t)
  clear h t HD1
  go_upto_region 12 with (fail)
  obtain ⟨v1, Hv1⟩ : ∃ u, Hid (u1.alloc (.cells #[.int .i64 0, .string (str []), .slice none 0 0, .int .i64 0, .int .i64 0, .int .i64 0, .int .i64 0] 29) = u) := ⟨_, Lib.hid rfl⟩
  obtain ⟨r1, Hr1⟩ : ∃ u, Hid (u1.heap.size = u) := ⟨_, Lib.hid rfl⟩
  have X1_1b : Hid (BoxC v1 r1 #[.int .i64 0, .string (str []), .slice none 0 0, .int .i64 0, .int .i64 0, .int .i64 0, .int .i64 0] 29) := Lib.hid (by rw [← Hv1.out, ← Hr1.out]; exact BoxC.new u1 _ _)
  have hbv : Below u1.heap.size u1 v1 := by rw [← Hv1.out]; exact balloc (Below.refl _ _) _
  have H1b := Lib.hid (H1.out.below hbv)
  have F1b := Lib.hid (F1.out.more hbv)
  clear hbv
  rw [Hv1.out, Hr1.out]
  have a1 : ¬ k < 2 := by have := K2.out; omega
  go_upto_region 14 with (fail)
  clear a1
  have hd := do_8 H1b.out (c1 k B2.out) (by omega) (by omega) (HM1.out.below F1b.out.below) 0 n [] [] [fl] ⟨by decide, by decide⟩ (by decide) (by decide) B1.out.1 B1.out.2 1 (s1w k) (1, 1, []) (s1t k) (by rw [s1l]; decide) sz HSZ.out HZ.out
  rw [pf2, s1e, ← HZ.out, HD.out, if_pos (by have := FK.out; omega : k - 2 < q + 1), if_neg (by decide)] at hd
  have HD2 := Lib.hid hd
  clear hd
  have a1 := BQ.out
  have a2 := HX.out
  have a3 := T3.out
  have qq := HQ.out
  have rr := Hr.out
  go_wp2_with fail
  clear a1 a2 a3 qq rr
  rw [show (⟨#[47, 102, 105, 108, 101]⟩ : ByteArray) = str [47, 102, 105, 108, 101] from rfl]
  refine HD2.out.mono ?_
  rintro e u2 ⟨rfl, mt2, ml2, h, t⟩
  have H2 : Hid (IsT u2 b mt2 ml2 4 (S1 k)) := Lib.hid h
  have F2 := Lib.hid (F1b.out.next t)
  have X1_2 := Lib.hid (X1_1b.out.kept t.mod (H1b.out.notOwn X1_1b.out (fun x h => by cases h)))
  clear h t HD2
  go_upto_region 18 with (fail)
  obtain ⟨v2, Hv2⟩ : ∃ u, Hid (u2.alloc (.cells #[.int .i64 15, .string (str []), .slice none 0 0, .int .i64 0, .int .i64 0, .int .i64 0, .int .i64 0] 29) = u) := ⟨_, Lib.hid rfl⟩
  obtain ⟨r2, Hr2⟩ : ∃ u, Hid (u2.heap.size = u) := ⟨_, Lib.hid rfl⟩
  have X2_2b : Hid (BoxC v2 r2 #[.int .i64 15, .string (str []), .slice none 0 0, .int .i64 0, .int .i64 0, .int .i64 0, .int .i64 0] 29) := Lib.hid (by rw [← Hv2.out, ← Hr2.out]; exact BoxC.new u2 _ _)
  have hbv : Below u2.heap.size u2 v2 := by rw [← Hv2.out]; exact balloc (Below.refl _ _) _
  have X1_2b := Lib.hid (X1_2.out.below hbv)
  have H2b := Lib.hid (H2.out.below hbv)
  have F2b := Lib.hid (F2.out.more hbv)
  clear hbv
  rw [Hv2.out, Hr2.out]
  have y1 := X1_2b.out.cell 0 rfl
  have y2 := X2_2b.out.cell 0 rfl
  have a1 : k - 2 < q + 1 := by have := FK.out; omega
  have a2 := BQ.out
  have a3 := B2.out
  go_wp2_with fail
  refine (Free_any H2b.out).mono ?_
  rw [s1f]
  rintro e u ⟨rfl, rfl⟩
  go_wp2
  go_ret
  exact ⟨rfl, B0.out.trans (F2b.out.below.mono B0.out.size)⟩
set_option maxRecDepth 100000 in
set_option maxHeartbeats 8000000 in
theorem wB110 (size room n k : Int) (w : World) (_ : (Lit.int .i64 size).wf = true) (_ : (Lit.int .i64 room).wf = true) (hm : Mx w) (hs : size.tmod 6145 < 0) (hn : -size.tmod 6145 = n) (hr : room.tmod 31 < 0) (hk : -room.tmod 31 = k) (b1 : 0 ≤ n ∧ n ≤ 6144) (b2 : 2 ≤ k ∧ k ≤ 30) (q : Int) (bq : 0 ≤ q ∧ q ≤ 12) (hq : n.tdiv 512 = q) (hx : ¬ 0 < n.tmod 512) (hd : needI n = q) (hf : q > k - 2) (sz : Nat) (hz : n = (sz : Int)) :
    Calls Tryz.prog 5 #[.int .i64 size, .int .i64 room] w fun e w' => e = .returned (.bool true) ∧ Below w.heap.size w w' := by
  have HM := Lib.hid hm
  have HN := Lib.hid hn
  have HK := Lib.hid hk
  have T1 := Lib.hid (tb size 6145 (by omega))
  have T2 := Lib.hid (tb room 31 (by omega))
  have HS := Lib.hid hs
  have HR := Lib.hid hr
  have B1 := Lib.hid b1
  have K2 : Hid (¬ k < 2) := Lib.hid (by omega)
  have B2 : Hid (2 ≤ k ∧ k ≤ 30) := Lib.hid b2
  have HZ := Lib.hid hz
  have HQ := Lib.hid hq
  have HD := Lib.hid hd
  have HSZ : Hid (sz ≤ 6144) := Lib.hid (by omega)
  have BQ := Lib.hid bq
  obtain ⟨r, Hr⟩ : ∃ r, Hid (n.tmod 512 = r) := ⟨_, Lib.hid rfl⟩
  have T3 := Lib.hid (tb n 512 (by omega))
  rw [Hr.out] at T3 hx
  have HX := Lib.hid hx
  have FK : Hid (k - 2 < q) := Lib.hid (by omega)
  clear hz hq hd bq hx hf
  clear hm hn hk hs hr b1 b2
  go_enter Tryz.func5, Tryz.ntmps5
  go_wp2_with fail
  refine (awk16_any w HM.out).mono ?_
  rintro e w1 ⟨rfl, hb0⟩
  have B0 := Lib.hid hb0
  have HM1 := Lib.hid (HM.out.below hb0)
  clear hb0
  have a1 := HS.out
  have a2 := T1.out
  go_upto_region 5 with (fail)
  clear a1 a2
  have a1 := HR.out
  have a2 := T2.out
  go_wp2_with fail
  clear a1 a2
  rw [HN.out, HK.out]
  refine (TNew_any k w1 HM1.out).mono ?_
  rw [clk k (by have := B2.out; omega)]
  rintro e u0 ⟨b, rfl, hbw, h0, hb⟩
  have H0 : Hid (IsT u0 b none none 0 (newTr k)) := Lib.hid h0
  have F0 : Hid (Fresh w1 u0 b none none) := Lib.hid ⟨hb, fun g hg => by
    rcases hg with e | e | e
    · omega
    · cases e
    · cases e⟩
  clear h0 hb hbw
  have hd := do_1 H0.out (c0 k (by have := B2.out; omega)) (by omega) (by omega) (HM1.out.below F0.out.below) 0 0 [] [] [] fl ⟨by decide, by decide⟩ (by decide)
  rw [pf1, s0e, if_neg (by have := K2.out; omega : ¬ k < 2), if_pos rfl] at hd
  have HD1 := Lib.hid hd
  clear hd
  go_wp2_with fail
  rw [show (⟨#[47, 102, 105, 108, 101]⟩ : ByteArray) = str [47, 102, 105, 108, 101] from rfl]
  refine HD1.out.mono ?_
  rintro e u1 ⟨rfl, mt1, ml1, h, t⟩
  have H1 : Hid (IsT u1 b mt1 ml1 2 (S1 k)) := Lib.hid h
  have F1 := Lib.hid (F0.out.next t)
  clear h t HD1
  go_upto_region 12 with (fail)
  obtain ⟨v1, Hv1⟩ : ∃ u, Hid (u1.alloc (.cells #[.int .i64 0, .string (str []), .slice none 0 0, .int .i64 0, .int .i64 0, .int .i64 0, .int .i64 0] 29) = u) := ⟨_, Lib.hid rfl⟩
  obtain ⟨r1, Hr1⟩ : ∃ u, Hid (u1.heap.size = u) := ⟨_, Lib.hid rfl⟩
  have X1_1b : Hid (BoxC v1 r1 #[.int .i64 0, .string (str []), .slice none 0 0, .int .i64 0, .int .i64 0, .int .i64 0, .int .i64 0] 29) := Lib.hid (by rw [← Hv1.out, ← Hr1.out]; exact BoxC.new u1 _ _)
  have hbv : Below u1.heap.size u1 v1 := by rw [← Hv1.out]; exact balloc (Below.refl _ _) _
  have H1b := Lib.hid (H1.out.below hbv)
  have F1b := Lib.hid (F1.out.more hbv)
  clear hbv
  rw [Hv1.out, Hr1.out]
  have a1 : ¬ k < 2 := by have := K2.out; omega
  go_upto_region 14 with (fail)
  clear a1
  have hd := do_8 H1b.out (c1 k B2.out) (by omega) (by omega) (HM1.out.below F1b.out.below) 0 n [] [] [fl] ⟨by decide, by decide⟩ (by decide) (by decide) B1.out.1 B1.out.2 1 (s1w k) (1, 1, []) (s1t k) (by rw [s1l]; decide) sz HSZ.out HZ.out
  rw [pf2, s1e, ← HZ.out, HD.out, if_pos (by have := FK.out; omega : k - 2 < q), if_neg (by decide)] at hd
  have HD2 := Lib.hid hd
  clear hd
  have a1 := BQ.out
  have a2 := HX.out
  have a3 := T3.out
  have qq := HQ.out
  have rr := Hr.out
  go_wp2_with fail
  clear a1 a2 a3 qq rr
  rw [show (⟨#[47, 102, 105, 108, 101]⟩ : ByteArray) = str [47, 102, 105, 108, 101] from rfl]
  refine HD2.out.mono ?_
  rintro e u2 ⟨rfl, mt2, ml2, h, t⟩
  have H2 : Hid (IsT u2 b mt2 ml2 4 (S1 k)) := Lib.hid h
  have F2 := Lib.hid (F1b.out.next t)
  have X1_2 := Lib.hid (X1_1b.out.kept t.mod (H1b.out.notOwn X1_1b.out (fun x h => by cases h)))
  clear h t HD2
  go_upto_region 18 with (fail)
  obtain ⟨v2, Hv2⟩ : ∃ u, Hid (u2.alloc (.cells #[.int .i64 15, .string (str []), .slice none 0 0, .int .i64 0, .int .i64 0, .int .i64 0, .int .i64 0] 29) = u) := ⟨_, Lib.hid rfl⟩
  obtain ⟨r2, Hr2⟩ : ∃ u, Hid (u2.heap.size = u) := ⟨_, Lib.hid rfl⟩
  have X2_2b : Hid (BoxC v2 r2 #[.int .i64 15, .string (str []), .slice none 0 0, .int .i64 0, .int .i64 0, .int .i64 0, .int .i64 0] 29) := Lib.hid (by rw [← Hv2.out, ← Hr2.out]; exact BoxC.new u2 _ _)
  have hbv : Below u2.heap.size u2 v2 := by rw [← Hv2.out]; exact balloc (Below.refl _ _) _
  have X1_2b := Lib.hid (X1_2.out.below hbv)
  have H2b := Lib.hid (H2.out.below hbv)
  have F2b := Lib.hid (F2.out.more hbv)
  clear hbv
  rw [Hv2.out, Hr2.out]
  have y1 := X1_2b.out.cell 0 rfl
  have y2 := X2_2b.out.cell 0 rfl
  have a1 : k - 2 < q := by have := FK.out; omega
  have a2 := BQ.out
  have a3 := B2.out
  go_wp2_with fail
  refine (Free_any H2b.out).mono ?_
  rw [s1f]
  rintro e u ⟨rfl, rfl⟩
  go_wp2
  go_ret
  exact ⟨rfl, B0.out.trans (F2b.out.below.mono B0.out.size)⟩
set_option maxRecDepth 100000 in
set_option maxHeartbeats 8000000 in
theorem wB101 (size room n k : Int) (w : World) (_ : (Lit.int .i64 size).wf = true) (_ : (Lit.int .i64 room).wf = true) (hm : Mx w) (hs : size.tmod 6145 < 0) (hn : -size.tmod 6145 = n) (hr : 0 ≤ room.tmod 31) (hk : room.tmod 31 = k) (b1 : 0 ≤ n ∧ n ≤ 6144) (b2 : 2 ≤ k ∧ k ≤ 30) (q : Int) (bq : 0 ≤ q ∧ q ≤ 12) (hq : n.tdiv 512 = q) (hx : 0 < n.tmod 512) (hd : needI n = q + 1) (hf : q + 1 > k - 2) (sz : Nat) (hz : n = (sz : Int)) :
    Calls Tryz.prog 5 #[.int .i64 size, .int .i64 room] w fun e w' => e = .returned (.bool true) ∧ Below w.heap.size w w' := by
  have HM := Lib.hid hm
  have HN := Lib.hid hn
  have HK := Lib.hid hk
  have T1 := Lib.hid (tb size 6145 (by omega))
  have T2 := Lib.hid (tb room 31 (by omega))
  have HS := Lib.hid hs
  have HR := Lib.hid hr
  have B1 := Lib.hid b1
  have K2 : Hid (¬ k < 2) := Lib.hid (by omega)
  have B2 : Hid (2 ≤ k ∧ k ≤ 30) := Lib.hid b2
  have HZ := Lib.hid hz
  have HQ := Lib.hid hq
  have HD := Lib.hid hd
  have HSZ : Hid (sz ≤ 6144) := Lib.hid (by omega)
  have BQ := Lib.hid bq
  obtain ⟨r, Hr⟩ : ∃ r, Hid (n.tmod 512 = r) := ⟨_, Lib.hid rfl⟩
  have T3 := Lib.hid (tb n 512 (by omega))
  rw [Hr.out] at T3 hx
  have HX := Lib.hid hx
  have FK : Hid (k - 2 < q + 1) := Lib.hid (by omega)
  clear hz hq hd bq hx hf
  clear hm hn hk hs hr b1 b2
  go_enter Tryz.func5, Tryz.ntmps5
  go_wp2_with fail
  refine (awk16_any w HM.out).mono ?_
  rintro e w1 ⟨rfl, hb0⟩
  have B0 := Lib.hid hb0
  have HM1 := Lib.hid (HM.out.below hb0)
  clear hb0
  have a1 := HS.out
  have a2 := T1.out
  go_upto_region 5 with (fail)
  clear a1 a2
  have a1 := HR.out
  have a2 := T2.out
  go_wp2_with fail
  clear a1 a2
  rw [HN.out, HK.out]
  refine (TNew_any k w1 HM1.out).mono ?_
  rw [clk k (by have := B2.out; omega)]
  rintro e u0 ⟨b, rfl, hbw, h0, hb⟩
  have H0 : Hid (IsT u0 b none none 0 (newTr k)) := Lib.hid h0
  have F0 : Hid (Fresh w1 u0 b none none) := Lib.hid ⟨hb, fun g hg => by
    rcases hg with e | e | e
    · omega
    · cases e
    · cases e⟩
  clear h0 hb hbw
  have hd := do_1 H0.out (c0 k (by have := B2.out; omega)) (by omega) (by omega) (HM1.out.below F0.out.below) 0 0 [] [] [] fl ⟨by decide, by decide⟩ (by decide)
  rw [pf1, s0e, if_neg (by have := K2.out; omega : ¬ k < 2), if_pos rfl] at hd
  have HD1 := Lib.hid hd
  clear hd
  go_wp2_with fail
  rw [show (⟨#[47, 102, 105, 108, 101]⟩ : ByteArray) = str [47, 102, 105, 108, 101] from rfl]
  refine HD1.out.mono ?_
  rintro e u1 ⟨rfl, mt1, ml1, h, t⟩
  have H1 : Hid (IsT u1 b mt1 ml1 2 (S1 k)) := Lib.hid h
  have F1 := Lib.hid (F0.out.next t)
  clear h t HD1
  go_upto_region 12 with (fail)
  obtain ⟨v1, Hv1⟩ : ∃ u, Hid (u1.alloc (.cells #[.int .i64 0, .string (str []), .slice none 0 0, .int .i64 0, .int .i64 0, .int .i64 0, .int .i64 0] 29) = u) := ⟨_, Lib.hid rfl⟩
  obtain ⟨r1, Hr1⟩ : ∃ u, Hid (u1.heap.size = u) := ⟨_, Lib.hid rfl⟩
  have X1_1b : Hid (BoxC v1 r1 #[.int .i64 0, .string (str []), .slice none 0 0, .int .i64 0, .int .i64 0, .int .i64 0, .int .i64 0] 29) := Lib.hid (by rw [← Hv1.out, ← Hr1.out]; exact BoxC.new u1 _ _)
  have hbv : Below u1.heap.size u1 v1 := by rw [← Hv1.out]; exact balloc (Below.refl _ _) _
  have H1b := Lib.hid (H1.out.below hbv)
  have F1b := Lib.hid (F1.out.more hbv)
  clear hbv
  rw [Hv1.out, Hr1.out]
  have a1 : ¬ k < 2 := by have := K2.out; omega
  go_upto_region 14 with (fail)
  clear a1
  have hd := do_8 H1b.out (c1 k B2.out) (by omega) (by omega) (HM1.out.below F1b.out.below) 0 n [] [] [fl] ⟨by decide, by decide⟩ (by decide) (by decide) B1.out.1 B1.out.2 1 (s1w k) (1, 1, []) (s1t k) (by rw [s1l]; decide) sz HSZ.out HZ.out
  rw [pf2, s1e, ← HZ.out, HD.out, if_pos (by have := FK.out; omega : k - 2 < q + 1), if_neg (by decide)] at hd
  have HD2 := Lib.hid hd
  clear hd
  have a1 := BQ.out
  have a2 := HX.out
  have a3 := T3.out
  have qq := HQ.out
  have rr := Hr.out
  go_wp2_with fail
  clear a1 a2 a3 qq rr
  rw [show (⟨#[47, 102, 105, 108, 101]⟩ : ByteArray) = str [47, 102, 105, 108, 101] from rfl]
  refine HD2.out.mono ?_
  rintro e u2 ⟨rfl, mt2, ml2, h, t⟩
  have H2 : Hid (IsT u2 b mt2 ml2 4 (S1 k)) := Lib.hid h
  have F2 := Lib.hid (F1b.out.next t)
  have X1_2 := Lib.hid (X1_1b.out.kept t.mod (H1b.out.notOwn X1_1b.out (fun x h => by cases h)))
  clear h t HD2
  go_upto_region 18 with (fail)
  obtain ⟨v2, Hv2⟩ : ∃ u, Hid (u2.alloc (.cells #[.int .i64 15, .string (str []), .slice none 0 0, .int .i64 0, .int .i64 0, .int .i64 0, .int .i64 0] 29) = u) := ⟨_, Lib.hid rfl⟩
  obtain ⟨r2, Hr2⟩ : ∃ u, Hid (u2.heap.size = u) := ⟨_, Lib.hid rfl⟩
  have X2_2b : Hid (BoxC v2 r2 #[.int .i64 15, .string (str []), .slice none 0 0, .int .i64 0, .int .i64 0, .int .i64 0, .int .i64 0] 29) := Lib.hid (by rw [← Hv2.out, ← Hr2.out]; exact BoxC.new u2 _ _)
  have hbv : Below u2.heap.size u2 v2 := by rw [← Hv2.out]; exact balloc (Below.refl _ _) _
  have X1_2b := Lib.hid (X1_2.out.below hbv)
  have H2b := Lib.hid (H2.out.below hbv)
  have F2b := Lib.hid (F2.out.more hbv)
  clear hbv
  rw [Hv2.out, Hr2.out]
  have y1 := X1_2b.out.cell 0 rfl
  have y2 := X2_2b.out.cell 0 rfl
  have a1 : k - 2 < q + 1 := by have := FK.out; omega
  have a2 := BQ.out
  have a3 := B2.out
  go_wp2_with fail
  refine (Free_any H2b.out).mono ?_
  rw [s1f]
  rintro e u ⟨rfl, rfl⟩
  go_wp2
  go_ret
  exact ⟨rfl, B0.out.trans (F2b.out.below.mono B0.out.size)⟩
set_option maxRecDepth 100000 in
set_option maxHeartbeats 8000000 in
theorem wB100 (size room n k : Int) (w : World) (_ : (Lit.int .i64 size).wf = true) (_ : (Lit.int .i64 room).wf = true) (hm : Mx w) (hs : size.tmod 6145 < 0) (hn : -size.tmod 6145 = n) (hr : 0 ≤ room.tmod 31) (hk : room.tmod 31 = k) (b1 : 0 ≤ n ∧ n ≤ 6144) (b2 : 2 ≤ k ∧ k ≤ 30) (q : Int) (bq : 0 ≤ q ∧ q ≤ 12) (hq : n.tdiv 512 = q) (hx : ¬ 0 < n.tmod 512) (hd : needI n = q) (hf : q > k - 2) (sz : Nat) (hz : n = (sz : Int)) :
    Calls Tryz.prog 5 #[.int .i64 size, .int .i64 room] w fun e w' => e = .returned (.bool true) ∧ Below w.heap.size w w' := by
  have HM := Lib.hid hm
  have HN := Lib.hid hn
  have HK := Lib.hid hk
  have T1 := Lib.hid (tb size 6145 (by omega))
  have T2 := Lib.hid (tb room 31 (by omega))
  have HS := Lib.hid hs
  have HR := Lib.hid hr
  have B1 := Lib.hid b1
  have K2 : Hid (¬ k < 2) := Lib.hid (by omega)
  have B2 : Hid (2 ≤ k ∧ k ≤ 30) := Lib.hid b2
  have HZ := Lib.hid hz
  have HQ := Lib.hid hq
  have HD := Lib.hid hd
  have HSZ : Hid (sz ≤ 6144) := Lib.hid (by omega)
  have BQ := Lib.hid bq
  obtain ⟨r, Hr⟩ : ∃ r, Hid (n.tmod 512 = r) := ⟨_, Lib.hid rfl⟩
  have T3 := Lib.hid (tb n 512 (by omega))
  rw [Hr.out] at T3 hx
  have HX := Lib.hid hx
  have FK : Hid (k - 2 < q) := Lib.hid (by omega)
  clear hz hq hd bq hx hf
  clear hm hn hk hs hr b1 b2
  go_enter Tryz.func5, Tryz.ntmps5
  go_wp2_with fail
  refine (awk16_any w HM.out).mono ?_
  rintro e w1 ⟨rfl, hb0⟩
  have B0 := Lib.hid hb0
  have HM1 := Lib.hid (HM.out.below hb0)
  clear hb0
  have a1 := HS.out
  have a2 := T1.out
  go_upto_region 5 with (fail)
  clear a1 a2
  have a1 := HR.out
  have a2 := T2.out
  go_wp2_with fail
  clear a1 a2
  rw [HN.out, HK.out]
  refine (TNew_any k w1 HM1.out).mono ?_
  rw [clk k (by have := B2.out; omega)]
  rintro e u0 ⟨b, rfl, hbw, h0, hb⟩
  have H0 : Hid (IsT u0 b none none 0 (newTr k)) := Lib.hid h0
  have F0 : Hid (Fresh w1 u0 b none none) := Lib.hid ⟨hb, fun g hg => by
    rcases hg with e | e | e
    · omega
    · cases e
    · cases e⟩
  clear h0 hb hbw
  have hd := do_1 H0.out (c0 k (by have := B2.out; omega)) (by omega) (by omega) (HM1.out.below F0.out.below) 0 0 [] [] [] fl ⟨by decide, by decide⟩ (by decide)
  rw [pf1, s0e, if_neg (by have := K2.out; omega : ¬ k < 2), if_pos rfl] at hd
  have HD1 := Lib.hid hd
  clear hd
  go_wp2_with fail
  rw [show (⟨#[47, 102, 105, 108, 101]⟩ : ByteArray) = str [47, 102, 105, 108, 101] from rfl]
  refine HD1.out.mono ?_
  rintro e u1 ⟨rfl, mt1, ml1, h, t⟩
  have H1 : Hid (IsT u1 b mt1 ml1 2 (S1 k)) := Lib.hid h
  have F1 := Lib.hid (F0.out.next t)
  clear h t HD1
  go_upto_region 12 with (fail)
  obtain ⟨v1, Hv1⟩ : ∃ u, Hid (u1.alloc (.cells #[.int .i64 0, .string (str []), .slice none 0 0, .int .i64 0, .int .i64 0, .int .i64 0, .int .i64 0] 29) = u) := ⟨_, Lib.hid rfl⟩
  obtain ⟨r1, Hr1⟩ : ∃ u, Hid (u1.heap.size = u) := ⟨_, Lib.hid rfl⟩
  have X1_1b : Hid (BoxC v1 r1 #[.int .i64 0, .string (str []), .slice none 0 0, .int .i64 0, .int .i64 0, .int .i64 0, .int .i64 0] 29) := Lib.hid (by rw [← Hv1.out, ← Hr1.out]; exact BoxC.new u1 _ _)
  have hbv : Below u1.heap.size u1 v1 := by rw [← Hv1.out]; exact balloc (Below.refl _ _) _
  have H1b := Lib.hid (H1.out.below hbv)
  have F1b := Lib.hid (F1.out.more hbv)
  clear hbv
  rw [Hv1.out, Hr1.out]
  have a1 : ¬ k < 2 := by have := K2.out; omega
  go_upto_region 14 with (fail)
  clear a1
  have hd := do_8 H1b.out (c1 k B2.out) (by omega) (by omega) (HM1.out.below F1b.out.below) 0 n [] [] [fl] ⟨by decide, by decide⟩ (by decide) (by decide) B1.out.1 B1.out.2 1 (s1w k) (1, 1, []) (s1t k) (by rw [s1l]; decide) sz HSZ.out HZ.out
  rw [pf2, s1e, ← HZ.out, HD.out, if_pos (by have := FK.out; omega : k - 2 < q), if_neg (by decide)] at hd
  have HD2 := Lib.hid hd
  clear hd
  have a1 := BQ.out
  have a2 := HX.out
  have a3 := T3.out
  have qq := HQ.out
  have rr := Hr.out
  go_wp2_with fail
  clear a1 a2 a3 qq rr
  rw [show (⟨#[47, 102, 105, 108, 101]⟩ : ByteArray) = str [47, 102, 105, 108, 101] from rfl]
  refine HD2.out.mono ?_
  rintro e u2 ⟨rfl, mt2, ml2, h, t⟩
  have H2 : Hid (IsT u2 b mt2 ml2 4 (S1 k)) := Lib.hid h
  have F2 := Lib.hid (F1b.out.next t)
  have X1_2 := Lib.hid (X1_1b.out.kept t.mod (H1b.out.notOwn X1_1b.out (fun x h => by cases h)))
  clear h t HD2
  go_upto_region 18 with (fail)
  obtain ⟨v2, Hv2⟩ : ∃ u, Hid (u2.alloc (.cells #[.int .i64 15, .string (str []), .slice none 0 0, .int .i64 0, .int .i64 0, .int .i64 0, .int .i64 0] 29) = u) := ⟨_, Lib.hid rfl⟩
  obtain ⟨r2, Hr2⟩ : ∃ u, Hid (u2.heap.size = u) := ⟨_, Lib.hid rfl⟩
  have X2_2b : Hid (BoxC v2 r2 #[.int .i64 15, .string (str []), .slice none 0 0, .int .i64 0, .int .i64 0, .int .i64 0, .int .i64 0] 29) := Lib.hid (by rw [← Hv2.out, ← Hr2.out]; exact BoxC.new u2 _ _)
  have hbv : Below u2.heap.size u2 v2 := by rw [← Hv2.out]; exact balloc (Below.refl _ _) _
  have X1_2b := Lib.hid (X1_2.out.below hbv)
  have H2b := Lib.hid (H2.out.below hbv)
  have F2b := Lib.hid (F2.out.more hbv)
  clear hbv
  rw [Hv2.out, Hr2.out]
  have y1 := X1_2b.out.cell 0 rfl
  have y2 := X2_2b.out.cell 0 rfl
  have a1 : k - 2 < q := by have := FK.out; omega
  have a2 := BQ.out
  have a3 := B2.out
  go_wp2_with fail
  refine (Free_any H2b.out).mono ?_
  rw [s1f]
  rintro e u ⟨rfl, rfl⟩
  go_wp2
  go_ret
  exact ⟨rfl, B0.out.trans (F2b.out.below.mono B0.out.size)⟩
set_option maxRecDepth 100000 in
set_option maxHeartbeats 8000000 in
theorem wB011 (size room n k : Int) (w : World) (_ : (Lit.int .i64 size).wf = true) (_ : (Lit.int .i64 room).wf = true) (hm : Mx w) (hs : 0 ≤ size.tmod 6145) (hn : size.tmod 6145 = n) (hr : room.tmod 31 < 0) (hk : -room.tmod 31 = k) (b1 : 0 ≤ n ∧ n ≤ 6144) (b2 : 2 ≤ k ∧ k ≤ 30) (q : Int) (bq : 0 ≤ q ∧ q ≤ 12) (hq : n.tdiv 512 = q) (hx : 0 < n.tmod 512) (hd : needI n = q + 1) (hf : q + 1 > k - 2) (sz : Nat) (hz : n = (sz : Int)) :
    Calls Tryz.prog 5 #[.int .i64 size, .int .i64 room] w fun e w' => e = .returned (.bool true) ∧ Below w.heap.size w w' := by
  have HM := Lib.hid hm
  have HN := Lib.hid hn
  have HK := Lib.hid hk
  have T1 := Lib.hid (tb size 6145 (by omega))
  have T2 := Lib.hid (tb room 31 (by omega))
  have HS := Lib.hid hs
  have HR := Lib.hid hr
  have B1 := Lib.hid b1
  have K2 : Hid (¬ k < 2) := Lib.hid (by omega)
  have B2 : Hid (2 ≤ k ∧ k ≤ 30) := Lib.hid b2
  have HZ := Lib.hid hz
  have HQ := Lib.hid hq
  have HD := Lib.hid hd
  have HSZ : Hid (sz ≤ 6144) := Lib.hid (by omega)
  have BQ := Lib.hid bq
  obtain ⟨r, Hr⟩ : ∃ r, Hid (n.tmod 512 = r) := ⟨_, Lib.hid rfl⟩
  have T3 := Lib.hid (tb n 512 (by omega))
  rw [Hr.out] at T3 hx
  have HX := Lib.hid hx
  have FK : Hid (k - 2 < q + 1) := Lib.hid (by omega)
  clear hz hq hd bq hx hf
  clear hm hn hk hs hr b1 b2
  go_enter Tryz.func5, Tryz.ntmps5
  go_wp2_with fail
  refine (awk16_any w HM.out).mono ?_
  rintro e w1 ⟨rfl, hb0⟩
  have B0 := Lib.hid hb0
  have HM1 := Lib.hid (HM.out.below hb0)
  clear hb0
  have a1 := HS.out
  have a2 := T1.out
  go_upto_region 5 with (fail)
  clear a1 a2
  have a1 := HR.out
  have a2 := T2.out
  go_wp2_with fail
  clear a1 a2
  rw [HN.out, HK.out]
  refine (TNew_any k w1 HM1.out).mono ?_
  rw [clk k (by have := B2.out; omega)]
  rintro e u0 ⟨b, rfl, hbw, h0, hb⟩
  have H0 : Hid (IsT u0 b none none 0 (newTr k)) := Lib.hid h0
  have F0 : Hid (Fresh w1 u0 b none none) := Lib.hid ⟨hb, fun g hg => by
    rcases hg with e | e | e
    · omega
    · cases e
    · cases e⟩
  clear h0 hb hbw
  have hd := do_1 H0.out (c0 k (by have := B2.out; omega)) (by omega) (by omega) (HM1.out.below F0.out.below) 0 0 [] [] [] fl ⟨by decide, by decide⟩ (by decide)
  rw [pf1, s0e, if_neg (by have := K2.out; omega : ¬ k < 2), if_pos rfl] at hd
  have HD1 := Lib.hid hd
  clear hd
  go_wp2_with fail
  rw [show (⟨#[47, 102, 105, 108, 101]⟩ : ByteArray) = str [47, 102, 105, 108, 101] from rfl]
  refine HD1.out.mono ?_
  rintro e u1 ⟨rfl, mt1, ml1, h, t⟩
  have H1 : Hid (IsT u1 b mt1 ml1 2 (S1 k)) := Lib.hid h
  have F1 := Lib.hid (F0.out.next t)
  clear h t HD1
  go_upto_region 12 with (fail)
  obtain ⟨v1, Hv1⟩ : ∃ u, Hid (u1.alloc (.cells #[.int .i64 0, .string (str []), .slice none 0 0, .int .i64 0, .int .i64 0, .int .i64 0, .int .i64 0] 29) = u) := ⟨_, Lib.hid rfl⟩
  obtain ⟨r1, Hr1⟩ : ∃ u, Hid (u1.heap.size = u) := ⟨_, Lib.hid rfl⟩
  have X1_1b : Hid (BoxC v1 r1 #[.int .i64 0, .string (str []), .slice none 0 0, .int .i64 0, .int .i64 0, .int .i64 0, .int .i64 0] 29) := Lib.hid (by rw [← Hv1.out, ← Hr1.out]; exact BoxC.new u1 _ _)
  have hbv : Below u1.heap.size u1 v1 := by rw [← Hv1.out]; exact balloc (Below.refl _ _) _
  have H1b := Lib.hid (H1.out.below hbv)
  have F1b := Lib.hid (F1.out.more hbv)
  clear hbv
  rw [Hv1.out, Hr1.out]
  have a1 : ¬ k < 2 := by have := K2.out; omega
  go_upto_region 14 with (fail)
  clear a1
  have hd := do_8 H1b.out (c1 k B2.out) (by omega) (by omega) (HM1.out.below F1b.out.below) 0 n [] [] [fl] ⟨by decide, by decide⟩ (by decide) (by decide) B1.out.1 B1.out.2 1 (s1w k) (1, 1, []) (s1t k) (by rw [s1l]; decide) sz HSZ.out HZ.out
  rw [pf2, s1e, ← HZ.out, HD.out, if_pos (by have := FK.out; omega : k - 2 < q + 1), if_neg (by decide)] at hd
  have HD2 := Lib.hid hd
  clear hd
  have a1 := BQ.out
  have a2 := HX.out
  have a3 := T3.out
  have qq := HQ.out
  have rr := Hr.out
  go_wp2_with fail
  clear a1 a2 a3 qq rr
  rw [show (⟨#[47, 102, 105, 108, 101]⟩ : ByteArray) = str [47, 102, 105, 108, 101] from rfl]
  refine HD2.out.mono ?_
  rintro e u2 ⟨rfl, mt2, ml2, h, t⟩
  have H2 : Hid (IsT u2 b mt2 ml2 4 (S1 k)) := Lib.hid h
  have F2 := Lib.hid (F1b.out.next t)
  have X1_2 := Lib.hid (X1_1b.out.kept t.mod (H1b.out.notOwn X1_1b.out (fun x h => by cases h)))
  clear h t HD2
  go_upto_region 18 with (fail)
  obtain ⟨v2, Hv2⟩ : ∃ u, Hid (u2.alloc (.cells #[.int .i64 15, .string (str []), .slice none 0 0, .int .i64 0, .int .i64 0, .int .i64 0, .int .i64 0] 29) = u) := ⟨_, Lib.hid rfl⟩
  obtain ⟨r2, Hr2⟩ : ∃ u, Hid (u2.heap.size = u) := ⟨_, Lib.hid rfl⟩
  have X2_2b : Hid (BoxC v2 r2 #[.int .i64 15, .string (str []), .slice none 0 0, .int .i64 0, .int .i64 0, .int .i64 0, .int .i64 0] 29) := Lib.hid (by rw [← Hv2.out, ← Hr2.out]; exact BoxC.new u2 _ _)
  have hbv : Below u2.heap.size u2 v2 := by rw [← Hv2.out]; exact balloc (Below.refl _ _) _
  have X1_2b := Lib.hid (X1_2.out.below hbv)
  have H2b := Lib.hid (H2.out.below hbv)
  have F2b := Lib.hid (F2.out.more hbv)
  clear hbv
  rw [Hv2.out, Hr2.out]
  have y1 := X1_2b.out.cell 0 rfl
  have y2 := X2_2b.out.cell 0 rfl
  have a1 : k - 2 < q + 1 := by have := FK.out; omega
  have a2 := BQ.out
  have a3 := B2.out
  go_wp2_with fail
  refine (Free_any H2b.out).mono ?_
  rw [s1f]
  rintro e u ⟨rfl, rfl⟩
  go_wp2
  go_ret
  exact ⟨rfl, B0.out.trans (F2b.out.below.mono B0.out.size)⟩
set_option maxRecDepth 100000 in
set_option maxHeartbeats 8000000 in
theorem wB010 (size room n k : Int) (w : World) (_ : (Lit.int .i64 size).wf = true) (_ : (Lit.int .i64 room).wf = true) (hm : Mx w) (hs : 0 ≤ size.tmod 6145) (hn : size.tmod 6145 = n) (hr : room.tmod 31 < 0) (hk : -room.tmod 31 = k) (b1 : 0 ≤ n ∧ n ≤ 6144) (b2 : 2 ≤ k ∧ k ≤ 30) (q : Int) (bq : 0 ≤ q ∧ q ≤ 12) (hq : n.tdiv 512 = q) (hx : ¬ 0 < n.tmod 512) (hd : needI n = q) (hf : q > k - 2) (sz : Nat) (hz : n = (sz : Int)) :
    Calls Tryz.prog 5 #[.int .i64 size, .int .i64 room] w fun e w' => e = .returned (.bool true) ∧ Below w.heap.size w w' := by
  have HM := Lib.hid hm
  have HN := Lib.hid hn
  have HK := Lib.hid hk
  have T1 := Lib.hid (tb size 6145 (by omega))
  have T2 := Lib.hid (tb room 31 (by omega))
  have HS := Lib.hid hs
  have HR := Lib.hid hr
  have B1 := Lib.hid b1
  have K2 : Hid (¬ k < 2) := Lib.hid (by omega)
  have B2 : Hid (2 ≤ k ∧ k ≤ 30) := Lib.hid b2
  have HZ := Lib.hid hz
  have HQ := Lib.hid hq
  have HD := Lib.hid hd
  have HSZ : Hid (sz ≤ 6144) := Lib.hid (by omega)
  have BQ := Lib.hid bq
  obtain ⟨r, Hr⟩ : ∃ r, Hid (n.tmod 512 = r) := ⟨_, Lib.hid rfl⟩
  have T3 := Lib.hid (tb n 512 (by omega))
  rw [Hr.out] at T3 hx
  have HX := Lib.hid hx
  have FK : Hid (k - 2 < q) := Lib.hid (by omega)
  clear hz hq hd bq hx hf
  clear hm hn hk hs hr b1 b2
  go_enter Tryz.func5, Tryz.ntmps5
  go_wp2_with fail
  refine (awk16_any w HM.out).mono ?_
  rintro e w1 ⟨rfl, hb0⟩
  have B0 := Lib.hid hb0
  have HM1 := Lib.hid (HM.out.below hb0)
  clear hb0
  have a1 := HS.out
  have a2 := T1.out
  go_upto_region 5 with (fail)
  clear a1 a2
  have a1 := HR.out
  have a2 := T2.out
  go_wp2_with fail
  clear a1 a2
  rw [HN.out, HK.out]
  refine (TNew_any k w1 HM1.out).mono ?_
  rw [clk k (by have := B2.out; omega)]
  rintro e u0 ⟨b, rfl, hbw, h0, hb⟩
  have H0 : Hid (IsT u0 b none none 0 (newTr k)) := Lib.hid h0
  have F0 : Hid (Fresh w1 u0 b none none) := Lib.hid ⟨hb, fun g hg => by
    rcases hg with e | e | e
    · omega
    · cases e
    · cases e⟩
  clear h0 hb hbw
  have hd := do_1 H0.out (c0 k (by have := B2.out; omega)) (by omega) (by omega) (HM1.out.below F0.out.below) 0 0 [] [] [] fl ⟨by decide, by decide⟩ (by decide)
  rw [pf1, s0e, if_neg (by have := K2.out; omega : ¬ k < 2), if_pos rfl] at hd
  have HD1 := Lib.hid hd
  clear hd
  go_wp2_with fail
  rw [show (⟨#[47, 102, 105, 108, 101]⟩ : ByteArray) = str [47, 102, 105, 108, 101] from rfl]
  refine HD1.out.mono ?_
  rintro e u1 ⟨rfl, mt1, ml1, h, t⟩
  have H1 : Hid (IsT u1 b mt1 ml1 2 (S1 k)) := Lib.hid h
  have F1 := Lib.hid (F0.out.next t)
  clear h t HD1
  go_upto_region 12 with (fail)
  obtain ⟨v1, Hv1⟩ : ∃ u, Hid (u1.alloc (.cells #[.int .i64 0, .string (str []), .slice none 0 0, .int .i64 0, .int .i64 0, .int .i64 0, .int .i64 0] 29) = u) := ⟨_, Lib.hid rfl⟩
  obtain ⟨r1, Hr1⟩ : ∃ u, Hid (u1.heap.size = u) := ⟨_, Lib.hid rfl⟩
  have X1_1b : Hid (BoxC v1 r1 #[.int .i64 0, .string (str []), .slice none 0 0, .int .i64 0, .int .i64 0, .int .i64 0, .int .i64 0] 29) := Lib.hid (by rw [← Hv1.out, ← Hr1.out]; exact BoxC.new u1 _ _)
  have hbv : Below u1.heap.size u1 v1 := by rw [← Hv1.out]; exact balloc (Below.refl _ _) _
  have H1b := Lib.hid (H1.out.below hbv)
  have F1b := Lib.hid (F1.out.more hbv)
  clear hbv
  rw [Hv1.out, Hr1.out]
  have a1 : ¬ k < 2 := by have := K2.out; omega
  go_upto_region 14 with (fail)
  clear a1
  have hd := do_8 H1b.out (c1 k B2.out) (by omega) (by omega) (HM1.out.below F1b.out.below) 0 n [] [] [fl] ⟨by decide, by decide⟩ (by decide) (by decide) B1.out.1 B1.out.2 1 (s1w k) (1, 1, []) (s1t k) (by rw [s1l]; decide) sz HSZ.out HZ.out
  rw [pf2, s1e, ← HZ.out, HD.out, if_pos (by have := FK.out; omega : k - 2 < q), if_neg (by decide)] at hd
  have HD2 := Lib.hid hd
  clear hd
  have a1 := BQ.out
  have a2 := HX.out
  have a3 := T3.out
  have qq := HQ.out
  have rr := Hr.out
  go_wp2_with fail
  clear a1 a2 a3 qq rr
  rw [show (⟨#[47, 102, 105, 108, 101]⟩ : ByteArray) = str [47, 102, 105, 108, 101] from rfl]
  refine HD2.out.mono ?_
  rintro e u2 ⟨rfl, mt2, ml2, h, t⟩
  have H2 : Hid (IsT u2 b mt2 ml2 4 (S1 k)) := Lib.hid h
  have F2 := Lib.hid (F1b.out.next t)
  have X1_2 := Lib.hid (X1_1b.out.kept t.mod (H1b.out.notOwn X1_1b.out (fun x h => by cases h)))
  clear h t HD2
  go_upto_region 18 with (fail)
  obtain ⟨v2, Hv2⟩ : ∃ u, Hid (u2.alloc (.cells #[.int .i64 15, .string (str []), .slice none 0 0, .int .i64 0, .int .i64 0, .int .i64 0, .int .i64 0] 29) = u) := ⟨_, Lib.hid rfl⟩
  obtain ⟨r2, Hr2⟩ : ∃ u, Hid (u2.heap.size = u) := ⟨_, Lib.hid rfl⟩
  have X2_2b : Hid (BoxC v2 r2 #[.int .i64 15, .string (str []), .slice none 0 0, .int .i64 0, .int .i64 0, .int .i64 0, .int .i64 0] 29) := Lib.hid (by rw [← Hv2.out, ← Hr2.out]; exact BoxC.new u2 _ _)
  have hbv : Below u2.heap.size u2 v2 := by rw [← Hv2.out]; exact balloc (Below.refl _ _) _
  have X1_2b := Lib.hid (X1_2.out.below hbv)
  have H2b := Lib.hid (H2.out.below hbv)
  have F2b := Lib.hid (F2.out.more hbv)
  clear hbv
  rw [Hv2.out, Hr2.out]
  have y1 := X1_2b.out.cell 0 rfl
  have y2 := X2_2b.out.cell 0 rfl
  have a1 : k - 2 < q := by have := FK.out; omega
  have a2 := BQ.out
  have a3 := B2.out
  go_wp2_with fail
  refine (Free_any H2b.out).mono ?_
  rw [s1f]
  rintro e u ⟨rfl, rfl⟩
  go_wp2
  go_ret
  exact ⟨rfl, B0.out.trans (F2b.out.below.mono B0.out.size)⟩
set_option maxRecDepth 100000 in
set_option maxHeartbeats 8000000 in
theorem wB001 (size room n k : Int) (w : World) (_ : (Lit.int .i64 size).wf = true) (_ : (Lit.int .i64 room).wf = true) (hm : Mx w) (hs : 0 ≤ size.tmod 6145) (hn : size.tmod 6145 = n) (hr : 0 ≤ room.tmod 31) (hk : room.tmod 31 = k) (b1 : 0 ≤ n ∧ n ≤ 6144) (b2 : 2 ≤ k ∧ k ≤ 30) (q : Int) (bq : 0 ≤ q ∧ q ≤ 12) (hq : n.tdiv 512 = q) (hx : 0 < n.tmod 512) (hd : needI n = q + 1) (hf : q + 1 > k - 2) (sz : Nat) (hz : n = (sz : Int)) :
    Calls Tryz.prog 5 #[.int .i64 size, .int .i64 room] w fun e w' => e = .returned (.bool true) ∧ Below w.heap.size w w' := by
  have HM := Lib.hid hm
  have HN := Lib.hid hn
  have HK := Lib.hid hk
  have T1 := Lib.hid (tb size 6145 (by omega))
  have T2 := Lib.hid (tb room 31 (by omega))
  have HS := Lib.hid hs
  have HR := Lib.hid hr
  have B1 := Lib.hid b1
  have K2 : Hid (¬ k < 2) := Lib.hid (by omega)
  have B2 : Hid (2 ≤ k ∧ k ≤ 30) := Lib.hid b2
  have HZ := Lib.hid hz
  have HQ := Lib.hid hq
  have HD := Lib.hid hd
  have HSZ : Hid (sz ≤ 6144) := Lib.hid (by omega)
  have BQ := Lib.hid bq
  obtain ⟨r, Hr⟩ : ∃ r, Hid (n.tmod 512 = r) := ⟨_, Lib.hid rfl⟩
  have T3 := Lib.hid (tb n 512 (by omega))
  rw [Hr.out] at T3 hx
  have HX := Lib.hid hx
  have FK : Hid (k - 2 < q + 1) := Lib.hid (by omega)
  clear hz hq hd bq hx hf
  clear hm hn hk hs hr b1 b2
  go_enter Tryz.func5, Tryz.ntmps5
  go_wp2_with fail
  refine (awk16_any w HM.out).mono ?_
  rintro e w1 ⟨rfl, hb0⟩
  have B0 := Lib.hid hb0
  have HM1 := Lib.hid (HM.out.below hb0)
  clear hb0
  have a1 := HS.out
  have a2 := T1.out
  go_upto_region 5 with (fail)
  clear a1 a2
  have a1 := HR.out
  have a2 := T2.out
  go_wp2_with fail
  clear a1 a2
  rw [HN.out, HK.out]
  refine (TNew_any k w1 HM1.out).mono ?_
  rw [clk k (by have := B2.out; omega)]
  rintro e u0 ⟨b, rfl, hbw, h0, hb⟩
  have H0 : Hid (IsT u0 b none none 0 (newTr k)) := Lib.hid h0
  have F0 : Hid (Fresh w1 u0 b none none) := Lib.hid ⟨hb, fun g hg => by
    rcases hg with e | e | e
    · omega
    · cases e
    · cases e⟩
  clear h0 hb hbw
  have hd := do_1 H0.out (c0 k (by have := B2.out; omega)) (by omega) (by omega) (HM1.out.below F0.out.below) 0 0 [] [] [] fl ⟨by decide, by decide⟩ (by decide)
  rw [pf1, s0e, if_neg (by have := K2.out; omega : ¬ k < 2), if_pos rfl] at hd
  have HD1 := Lib.hid hd
  clear hd
  go_wp2_with fail
  rw [show (⟨#[47, 102, 105, 108, 101]⟩ : ByteArray) = str [47, 102, 105, 108, 101] from rfl]
  refine HD1.out.mono ?_
  rintro e u1 ⟨rfl, mt1, ml1, h, t⟩
  have H1 : Hid (IsT u1 b mt1 ml1 2 (S1 k)) := Lib.hid h
  have F1 := Lib.hid (F0.out.next t)
  clear h t HD1
  go_upto_region 12 with (fail)
  obtain ⟨v1, Hv1⟩ : ∃ u, Hid (u1.alloc (.cells #[.int .i64 0, .string (str []), .slice none 0 0, .int .i64 0, .int .i64 0, .int .i64 0, .int .i64 0] 29) = u) := ⟨_, Lib.hid rfl⟩
  obtain ⟨r1, Hr1⟩ : ∃ u, Hid (u1.heap.size = u) := ⟨_, Lib.hid rfl⟩
  have X1_1b : Hid (BoxC v1 r1 #[.int .i64 0, .string (str []), .slice none 0 0, .int .i64 0, .int .i64 0, .int .i64 0, .int .i64 0] 29) := Lib.hid (by rw [← Hv1.out, ← Hr1.out]; exact BoxC.new u1 _ _)
  have hbv : Below u1.heap.size u1 v1 := by rw [← Hv1.out]; exact balloc (Below.refl _ _) _
  have H1b := Lib.hid (H1.out.below hbv)
  have F1b := Lib.hid (F1.out.more hbv)
  clear hbv
  rw [Hv1.out, Hr1.out]
  have a1 : ¬ k < 2 := by have := K2.out; omega
  go_upto_region 14 with (fail)
  clear a1
  have hd := do_8 H1b.out (c1 k B2.out) (by omega) (by omega) (HM1.out.below F1b.out.below) 0 n [] [] [fl] ⟨by decide, by decide⟩ (by decide) (by decide) B1.out.1 B1.out.2 1 (s1w k) (1, 1, []) (s1t k) (by rw [s1l]; decide) sz HSZ.out HZ.out
  rw [pf2, s1e, ← HZ.out, HD.out, if_pos (by have := FK.out; omega : k - 2 < q + 1), if_neg (by decide)] at hd
  have HD2 := Lib.hid hd
  clear hd
  have a1 := BQ.out
  have a2 := HX.out
  have a3 := T3.out
  have qq := HQ.out
  have rr := Hr.out
  go_wp2_with fail
  clear a1 a2 a3 qq rr
  rw [show (⟨#[47, 102, 105, 108, 101]⟩ : ByteArray) = str [47, 102, 105, 108, 101] from rfl]
  refine HD2.out.mono ?_
  rintro e u2 ⟨rfl, mt2, ml2, h, t⟩
  have H2 : Hid (IsT u2 b mt2 ml2 4 (S1 k)) := Lib.hid h
  have F2 := Lib.hid (F1b.out.next t)
  have X1_2 := Lib.hid (X1_1b.out.kept t.mod (H1b.out.notOwn X1_1b.out (fun x h => by cases h)))
  clear h t HD2
  go_upto_region 18 with (fail)
  obtain ⟨v2, Hv2⟩ : ∃ u, Hid (u2.alloc (.cells #[.int .i64 15, .string (str []), .slice none 0 0, .int .i64 0, .int .i64 0, .int .i64 0, .int .i64 0] 29) = u) := ⟨_, Lib.hid rfl⟩
  obtain ⟨r2, Hr2⟩ : ∃ u, Hid (u2.heap.size = u) := ⟨_, Lib.hid rfl⟩
  have X2_2b : Hid (BoxC v2 r2 #[.int .i64 15, .string (str []), .slice none 0 0, .int .i64 0, .int .i64 0, .int .i64 0, .int .i64 0] 29) := Lib.hid (by rw [← Hv2.out, ← Hr2.out]; exact BoxC.new u2 _ _)
  have hbv : Below u2.heap.size u2 v2 := by rw [← Hv2.out]; exact balloc (Below.refl _ _) _
  have X1_2b := Lib.hid (X1_2.out.below hbv)
  have H2b := Lib.hid (H2.out.below hbv)
  have F2b := Lib.hid (F2.out.more hbv)
  clear hbv
  rw [Hv2.out, Hr2.out]
  have y1 := X1_2b.out.cell 0 rfl
  have y2 := X2_2b.out.cell 0 rfl
  have a1 : k - 2 < q + 1 := by have := FK.out; omega
  have a2 := BQ.out
  have a3 := B2.out
  go_wp2_with fail
  refine (Free_any H2b.out).mono ?_
  rw [s1f]
  rintro e u ⟨rfl, rfl⟩
  go_wp2
  go_ret
  exact ⟨rfl, B0.out.trans (F2b.out.below.mono B0.out.size)⟩
set_option maxRecDepth 100000 in
set_option maxHeartbeats 8000000 in
theorem wB000 (size room n k : Int) (w : World) (_ : (Lit.int .i64 size).wf = true) (_ : (Lit.int .i64 room).wf = true) (hm : Mx w) (hs : 0 ≤ size.tmod 6145) (hn : size.tmod 6145 = n) (hr : 0 ≤ room.tmod 31) (hk : room.tmod 31 = k) (b1 : 0 ≤ n ∧ n ≤ 6144) (b2 : 2 ≤ k ∧ k ≤ 30) (q : Int) (bq : 0 ≤ q ∧ q ≤ 12) (hq : n.tdiv 512 = q) (hx : ¬ 0 < n.tmod 512) (hd : needI n = q) (hf : q > k - 2) (sz : Nat) (hz : n = (sz : Int)) :
    Calls Tryz.prog 5 #[.int .i64 size, .int .i64 room] w fun e w' => e = .returned (.bool true) ∧ Below w.heap.size w w' := by
  have HM := Lib.hid hm
  have HN := Lib.hid hn
  have HK := Lib.hid hk
  have T1 := Lib.hid (tb size 6145 (by omega))
  have T2 := Lib.hid (tb room 31 (by omega))
  have HS := Lib.hid hs
  have HR := Lib.hid hr
  have B1 := Lib.hid b1
  have K2 : Hid (¬ k < 2) := Lib.hid (by omega)
  have B2 : Hid (2 ≤ k ∧ k ≤ 30) := Lib.hid b2
  have HZ := Lib.hid hz
  have HQ := Lib.hid hq
  have HD := Lib.hid hd
  have HSZ : Hid (sz ≤ 6144) := Lib.hid (by omega)
  have BQ := Lib.hid bq
  obtain ⟨r, Hr⟩ : ∃ r, Hid (n.tmod 512 = r) := ⟨_, Lib.hid rfl⟩
  have T3 := Lib.hid (tb n 512 (by omega))
  rw [Hr.out] at T3 hx
  have HX := Lib.hid hx
  have FK : Hid (k - 2 < q) := Lib.hid (by omega)
  clear hz hq hd bq hx hf
  clear hm hn hk hs hr b1 b2
  go_enter Tryz.func5, Tryz.ntmps5
  go_wp2_with fail
  refine (awk16_any w HM.out).mono ?_
  rintro e w1 ⟨rfl, hb0⟩
  have B0 := Lib.hid hb0
  have HM1 := Lib.hid (HM.out.below hb0)
  clear hb0
  have a1 := HS.out
  have a2 := T1.out
  go_upto_region 5 with (fail)
  clear a1 a2
  have a1 := HR.out
  have a2 := T2.out
  go_wp2_with fail
  clear a1 a2
  rw [HN.out, HK.out]
  refine (TNew_any k w1 HM1.out).mono ?_
  rw [clk k (by have := B2.out; omega)]
  rintro e u0 ⟨b, rfl, hbw, h0, hb⟩
  have H0 : Hid (IsT u0 b none none 0 (newTr k)) := Lib.hid h0
  have F0 : Hid (Fresh w1 u0 b none none) := Lib.hid ⟨hb, fun g hg => by
    rcases hg with e | e | e
    · omega
    · cases e
    · cases e⟩
  clear h0 hb hbw
  have hd := do_1 H0.out (c0 k (by have := B2.out; omega)) (by omega) (by omega) (HM1.out.below F0.out.below) 0 0 [] [] [] fl ⟨by decide, by decide⟩ (by decide)
  rw [pf1, s0e, if_neg (by have := K2.out; omega : ¬ k < 2), if_pos rfl] at hd
  have HD1 := Lib.hid hd
  clear hd
  go_wp2_with fail
  rw [show (⟨#[47, 102, 105, 108, 101]⟩ : ByteArray) = str [47, 102, 105, 108, 101] from rfl]
  refine HD1.out.mono ?_
  rintro e u1 ⟨rfl, mt1, ml1, h, t⟩
  have H1 : Hid (IsT u1 b mt1 ml1 2 (S1 k)) := Lib.hid h
  have F1 := Lib.hid (F0.out.next t)
  clear h t HD1
  go_upto_region 12 with (fail)
  obtain ⟨v1, Hv1⟩ : ∃ u, Hid (u1.alloc (.cells #[.int .i64 0, .string (str []), .slice none 0 0, .int .i64 0, .int .i64 0, .int .i64 0, .int .i64 0] 29) = u) := ⟨_, Lib.hid rfl⟩
  obtain ⟨r1, Hr1⟩ : ∃ u, Hid (u1.heap.size = u) := ⟨_, Lib.hid rfl⟩
  have X1_1b : Hid (BoxC v1 r1 #[.int .i64 0, .string (str []), .slice none 0 0, .int .i64 0, .int .i64 0, .int .i64 0, .int .i64 0] 29) := Lib.hid (by rw [← Hv1.out, ← Hr1.out]; exact BoxC.new u1 _ _)
  have hbv : Below u1.heap.size u1 v1 := by rw [← Hv1.out]; exact balloc (Below.refl _ _) _
  have H1b := Lib.hid (H1.out.below hbv)
  have F1b := Lib.hid (F1.out.more hbv)
  clear hbv
  rw [Hv1.out, Hr1.out]
  have a1 : ¬ k < 2 := by have := K2.out; omega
  go_upto_region 14 with (fail)
  clear a1
  have hd := do_8 H1b.out (c1 k B2.out) (by omega) (by omega) (HM1.out.below F1b.out.below) 0 n [] [] [fl] ⟨by decide, by decide⟩ (by decide) (by decide) B1.out.1 B1.out.2 1 (s1w k) (1, 1, []) (s1t k) (by rw [s1l]; decide) sz HSZ.out HZ.out
  rw [pf2, s1e, ← HZ.out, HD.out, if_pos (by have := FK.out; omega : k - 2 < q), if_neg (by decide)] at hd
  have HD2 := Lib.hid hd
  clear hd
  have a1 := BQ.out
  have a2 := HX.out
  have a3 := T3.out
  have qq := HQ.out
  have rr := Hr.out
  go_wp2_with fail
  clear a1 a2 a3 qq rr
  rw [show (⟨#[47, 102, 105, 108, 101]⟩ : ByteArray) = str [47, 102, 105, 108, 101] from rfl]
  refine HD2.out.mono ?_
  rintro e u2 ⟨rfl, mt2, ml2, h, t⟩
  have H2 : Hid (IsT u2 b mt2 ml2 4 (S1 k)) := Lib.hid h
  have F2 := Lib.hid (F1b.out.next t)
  have X1_2 := Lib.hid (X1_1b.out.kept t.mod (H1b.out.notOwn X1_1b.out (fun x h => by cases h)))
  clear h t HD2
  go_upto_region 18 with (fail)
  obtain ⟨v2, Hv2⟩ : ∃ u, Hid (u2.alloc (.cells #[.int .i64 15, .string (str []), .slice none 0 0, .int .i64 0, .int .i64 0, .int .i64 0, .int .i64 0] 29) = u) := ⟨_, Lib.hid rfl⟩
  obtain ⟨r2, Hr2⟩ : ∃ u, Hid (u2.heap.size = u) := ⟨_, Lib.hid rfl⟩
  have X2_2b : Hid (BoxC v2 r2 #[.int .i64 15, .string (str []), .slice none 0 0, .int .i64 0, .int .i64 0, .int .i64 0, .int .i64 0] 29) := Lib.hid (by rw [← Hv2.out, ← Hr2.out]; exact BoxC.new u2 _ _)
  have hbv : Below u2.heap.size u2 v2 := by rw [← Hv2.out]; exact balloc (Below.refl _ _) _
  have X1_2b := Lib.hid (X1_2.out.below hbv)
  have H2b := Lib.hid (H2.out.below hbv)
  have F2b := Lib.hid (F2.out.more hbv)
  clear hbv
  rw [Hv2.out, Hr2.out]
  have y1 := X1_2b.out.cell 0 rfl
  have y2 := X2_2b.out.cell 0 rfl
  have a1 : k - 2 < q := by have := FK.out; omega
  have a2 := BQ.out
  have a3 := B2.out
  go_wp2_with fail
  refine (Free_any H2b.out).mono ?_
  rw [s1f]
  rintro e u ⟨rfl, rfl⟩
  go_wp2
  go_ret
  exact ⟨rfl, B0.out.trans (F2b.out.below.mono B0.out.size)⟩
set_option maxRecDepth 100000 in
set_option maxHeartbeats 8000000 in
theorem wC111 (size room n k : Int) (w : World) (_ : (Lit.int .i64 size).wf = true) (_ : (Lit.int .i64 room).wf = true) (hm : Mx w) (hs : size.tmod 6145 < 0) (hn : -size.tmod 6145 = n) (hr : room.tmod 31 < 0) (hk : -room.tmod 31 = k) (b1 : 0 ≤ n ∧ n ≤ 6144) (b2 : 2 ≤ k ∧ k ≤ 30) (q : Int) (bq : 0 ≤ q ∧ q ≤ 12) (hq : n.tdiv 512 = q) (hx : 0 < n.tmod 512) (hd : needI n = q + 1) (hf : q + 1 ≤ k - 2) (sz : Nat) (hz : n = (sz : Int)) :
    Calls Tryz.prog 5 #[.int .i64 size, .int .i64 room] w fun e w' => e = .returned (.bool true) ∧ Below w.heap.size w w' := by
  have HM := Lib.hid hm
  have HN := Lib.hid hn
  have HK := Lib.hid hk
  have T1 := Lib.hid (tb size 6145 (by omega))
  have T2 := Lib.hid (tb room 31 (by omega))
  have HS := Lib.hid hs
  have HR := Lib.hid hr
  have B1 := Lib.hid b1
  have K2 : Hid (¬ k < 2) := Lib.hid (by omega)
  have B2 : Hid (2 ≤ k ∧ k ≤ 30) := Lib.hid b2
  have HZ := Lib.hid hz
  have HQ := Lib.hid hq
  have HD := Lib.hid hd
  have HSZ : Hid (sz ≤ 6144) := Lib.hid (by omega)
  have BQ := Lib.hid bq
  obtain ⟨r, Hr⟩ : ∃ r, Hid (n.tmod 512 = r) := ⟨_, Lib.hid rfl⟩
  have T3 := Lib.hid (tb n 512 (by omega))
  rw [Hr.out] at T3 hx
  have HX := Lib.hid hx
  have FK : Hid (¬ k - 2 < q + 1) := Lib.hid (by omega)
  clear hz hq hd bq hx hf
  clear hm hn hk hs hr b1 b2
  go_enter Tryz.func5, Tryz.ntmps5
  go_wp2_with fail
  refine (awk16_any w HM.out).mono ?_
  rintro e w1 ⟨rfl, hb0⟩
  have B0 := Lib.hid hb0
  have HM1 := Lib.hid (HM.out.below hb0)
  clear hb0
  have a1 := HS.out
  have a2 := T1.out
  go_upto_region 5 with (fail)
  clear a1 a2
  have a1 := HR.out
  have a2 := T2.out
  go_wp2_with fail
  clear a1 a2
  rw [HN.out, HK.out]
  refine (TNew_any k w1 HM1.out).mono ?_
  rw [clk k (by have := B2.out; omega)]
  rintro e u0 ⟨b, rfl, hbw, h0, hb⟩
  have H0 : Hid (IsT u0 b none none 0 (newTr k)) := Lib.hid h0
  have F0 : Hid (Fresh w1 u0 b none none) := Lib.hid ⟨hb, fun g hg => by
    rcases hg with e | e | e
    · omega
    · cases e
    · cases e⟩
  clear h0 hb hbw
  have hd := do_1 H0.out (c0 k (by have := B2.out; omega)) (by omega) (by omega) (HM1.out.below F0.out.below) 0 0 [] [] [] fl ⟨by decide, by decide⟩ (by decide)
  rw [pf1, s0e, if_neg (by have := K2.out; omega : ¬ k < 2), if_pos rfl] at hd
  have HD1 := Lib.hid hd
  clear hd
  go_wp2_with fail
  rw [show (⟨#[47, 102, 105, 108, 101]⟩ : ByteArray) = str [47, 102, 105, 108, 101] from rfl]
  refine HD1.out.mono ?_
  rintro e u1 ⟨rfl, mt1, ml1, h, t⟩
  have H1 : Hid (IsT u1 b mt1 ml1 2 (S1 k)) := Lib.hid h
  have F1 := Lib.hid (F0.out.next t)
  clear h t HD1
  go_upto_region 12 with (fail)
  obtain ⟨v1, Hv1⟩ : ∃ u, Hid (u1.alloc (.cells #[.int .i64 0, .string (str []), .slice none 0 0, .int .i64 0, .int .i64 0, .int .i64 0, .int .i64 0] 29) = u) := ⟨_, Lib.hid rfl⟩
  obtain ⟨r1, Hr1⟩ : ∃ u, Hid (u1.heap.size = u) := ⟨_, Lib.hid rfl⟩
  have X1_1b : Hid (BoxC v1 r1 #[.int .i64 0, .string (str []), .slice none 0 0, .int .i64 0, .int .i64 0, .int .i64 0, .int .i64 0] 29) := Lib.hid (by rw [← Hv1.out, ← Hr1.out]; exact BoxC.new u1 _ _)
  have hbv : Below u1.heap.size u1 v1 := by rw [← Hv1.out]; exact balloc (Below.refl _ _) _
  have H1b := Lib.hid (H1.out.below hbv)
  have F1b := Lib.hid (F1.out.more hbv)
  clear hbv
  rw [Hv1.out, Hr1.out]
  have a1 : ¬ k < 2 := by have := K2.out; omega
  go_upto_region 14 with (fail)
  clear a1
  have hd := do_8 H1b.out (c1 k B2.out) (by omega) (by omega) (HM1.out.below F1b.out.below) 0 n [] [] [fl] ⟨by decide, by decide⟩ (by decide) (by decide) B1.out.1 B1.out.2 1 (s1w k) (1, 1, []) (s1t k) (by rw [s1l]; decide) sz HSZ.out HZ.out
  rw [pf2, s1e, ← HZ.out, HD.out, if_neg (by have := FK.out; omega : ¬ k - 2 < q + 1), if_pos rfl] at hd
  have HD2 := Lib.hid hd
  clear hd
  have a1 := BQ.out
  have a2 := HX.out
  have a3 := T3.out
  have qq := HQ.out
  have rr := Hr.out
  go_wp2_with fail
  clear a1 a2 a3 qq rr
  rw [show (⟨#[47, 102, 105, 108, 101]⟩ : ByteArray) = str [47, 102, 105, 108, 101] from rfl]
  refine HD2.out.mono ?_
  rintro e u2 ⟨rfl, mt2, ml2, h, t⟩
  have H2 : Hid (IsT u2 b mt2 ml2 4 (S2 k sz)) := Lib.hid h
  have F2 := Lib.hid (F1b.out.next t)
  have X1_2 := Lib.hid (X1_1b.out.kept t.mod (H1b.out.notOwn X1_1b.out (fun x h => by cases h)))
  clear h t HD2
  go_upto_region 18 with (fail)
  obtain ⟨v2, Hv2⟩ : ∃ u, Hid (u2.alloc (.cells #[.int .i64 0, .string (str []), .slice none 0 0, .int .i64 0, .int .i64 0, .int .i64 0, .int .i64 0] 29) = u) := ⟨_, Lib.hid rfl⟩
  obtain ⟨r2, Hr2⟩ : ∃ u, Hid (u2.heap.size = u) := ⟨_, Lib.hid rfl⟩
  have X2_2b : Hid (BoxC v2 r2 #[.int .i64 0, .string (str []), .slice none 0 0, .int .i64 0, .int .i64 0, .int .i64 0, .int .i64 0] 29) := Lib.hid (by rw [← Hv2.out, ← Hr2.out]; exact BoxC.new u2 _ _)
  have hbv : Below u2.heap.size u2 v2 := by rw [← Hv2.out]; exact balloc (Below.refl _ _) _
  have X1_2b := Lib.hid (X1_2.out.below hbv)
  have H2b := Lib.hid (H2.out.below hbv)
  have F2b := Lib.hid (F2.out.more hbv)
  clear hbv
  rw [Hv2.out, Hr2.out]
  have a1 : ¬ k - 2 < q + 1 := by have := FK.out; omega
  have a2 := BQ.out
  have a3 := B2.out
  go_wp2_with fail
  clear a1 a2 a3
  refine (Free_any H2b.out).mono ?_
  rw [s2f, ← HZ.out, HD.out]
  rintro e u ⟨rfl, rfl⟩
  have hd := do_4 H2b.out (c2 k sz B2.out HSZ.out) (by omega) (by omega) (HM1.out.below F2b.out.below) 0 0 [] [] [] fl ⟨by decide, by decide⟩ (by decide) 1 (s2w k sz) (1, 1, sized [] sz) (s2t k sz) (by rw [s2l]; decide)
  rw [pf1, s2e, if_pos rfl] at hd
  have HD3 := Lib.hid hd
  clear hd
  go_wp2_with fail
  rw [show (⟨#[47, 102, 105, 108, 101]⟩ : ByteArray) = str [47, 102, 105, 108, 101] from rfl]
  refine HD3.out.mono ?_
  rintro e u3 ⟨rfl, mt3, ml3, h, t⟩
  have H3 : Hid (IsT u3 b mt3 ml3 6 (S3 k sz)) := Lib.hid h
  have F3 := Lib.hid (F2b.out.next t)
  have X1_3 := Lib.hid (X1_2b.out.kept t.mod (H2b.out.notOwn X1_2b.out (fun x h => by cases h)))
  have X2_3 := Lib.hid (X2_2b.out.kept t.mod (H2b.out.notOwn X2_2b.out (fun x h => by cases h)))
  clear h t HD3
  go_upto_region 22 with (fail)
  obtain ⟨v3, Hv3⟩ : ∃ u, Hid (u3.alloc (.cells #[.int .i64 0, .string (str []), .slice none 0 0, .int .i64 0, .int .i64 0, .int .i64 0, .int .i64 0] 29) = u) := ⟨_, Lib.hid rfl⟩
  obtain ⟨r3, Hr3⟩ : ∃ u, Hid (u3.heap.size = u) := ⟨_, Lib.hid rfl⟩
  have X3_3b : Hid (BoxC v3 r3 #[.int .i64 0, .string (str []), .slice none 0 0, .int .i64 0, .int .i64 0, .int .i64 0, .int .i64 0] 29) := Lib.hid (by rw [← Hv3.out, ← Hr3.out]; exact BoxC.new u3 _ _)
  have hbv : Below u3.heap.size u3 v3 := by rw [← Hv3.out]; exact balloc (Below.refl _ _) _
  have X1_3b := Lib.hid (X1_3.out.below hbv)
  have X2_3b := Lib.hid (X2_3.out.below hbv)
  have H3b := Lib.hid (H3.out.below hbv)
  have F3b := Lib.hid (F3.out.more hbv)
  clear hbv
  rw [Hv3.out, Hr3.out]
  have y1 := X1_3b.out.cell 0 rfl
  have y2 := X2_3b.out.cell 0 rfl
  have y3 := X3_3b.out.cell 0 rfl
  have a1 : ¬ k - 2 < q + 1 := by have := FK.out; omega
  have a2 := BQ.out
  have a3 := B2.out
  go_wp2_with fail
  refine (Free_any H3b.out).mono ?_
  rw [s3f]
  rintro e u ⟨rfl, rfl⟩
  go_wp2
  go_ret
  exact ⟨rfl, B0.out.trans (F3b.out.below.mono B0.out.size)⟩
set_option maxRecDepth 100000 in
set_option maxHeartbeats 8000000 in
theorem wC110 (size room n k : Int) (w : World) (_ : (Lit.int .i64 size).wf = true) (_ : (Lit.int .i64 room).wf = true) (hm : Mx w) (hs : size.tmod 6145 < 0) (hn : -size.tmod 6145 = n) (hr : room.tmod 31 < 0) (hk : -room.tmod 31 = k) (b1 : 0 ≤ n ∧ n ≤ 6144) (b2 : 2 ≤ k ∧ k ≤ 30) (q : Int) (bq : 0 ≤ q ∧ q ≤ 12) (hq : n.tdiv 512 = q) (hx : ¬ 0 < n.tmod 512) (hd : needI n = q) (hf : q ≤ k - 2) (sz : Nat) (hz : n = (sz : Int)) :
    Calls Tryz.prog 5 #[.int .i64 size, .int .i64 room] w fun e w' => e = .returned (.bool true) ∧ Below w.heap.size w w' := by
  have HM := Lib.hid hm
  have HN := Lib.hid hn
  have HK := Lib.hid hk
  have T1 := Lib.hid (tb size 6145 (by omega))
  have T2 := Lib.hid (tb room 31 (by omega))
  have HS := Lib.hid hs
  have HR := Lib.hid hr
  have B1 := Lib.hid b1
  have K2 : Hid (¬ k < 2) := Lib.hid (by omega)
  have B2 : Hid (2 ≤ k ∧ k ≤ 30) := Lib.hid b2
  have HZ := Lib.hid hz
  have HQ := Lib.hid hq
  have HD := Lib.hid hd
  have HSZ : Hid (sz ≤ 6144) := Lib.hid (by omega)
  have BQ := Lib.hid bq
  obtain ⟨r, Hr⟩ : ∃ r, Hid (n.tmod 512 = r) := ⟨_, Lib.hid rfl⟩
  have T3 := Lib.hid (tb n 512 (by omega))
  rw [Hr.out] at T3 hx
  have HX := Lib.hid hx
  have FK : Hid (¬ k - 2 < q) := Lib.hid (by omega)
  clear hz hq hd bq hx hf
  clear hm hn hk hs hr b1 b2
  go_enter Tryz.func5, Tryz.ntmps5
  go_wp2_with fail
  refine (awk16_any w HM.out).mono ?_
  rintro e w1 ⟨rfl, hb0⟩
  have B0 := Lib.hid hb0
  have HM1 := Lib.hid (HM.out.below hb0)
  clear hb0
  have a1 := HS.out
  have a2 := T1.out
  go_upto_region 5 with (fail)
  clear a1 a2
  have a1 := HR.out
  have a2 := T2.out
  go_wp2_with fail
  clear a1 a2
  rw [HN.out, HK.out]
  refine (TNew_any k w1 HM1.out).mono ?_
  rw [clk k (by have := B2.out; omega)]
  rintro e u0 ⟨b, rfl, hbw, h0, hb⟩
  have H0 : Hid (IsT u0 b none none 0 (newTr k)) := Lib.hid h0
  have F0 : Hid (Fresh w1 u0 b none none) := Lib.hid ⟨hb, fun g hg => by
    rcases hg with e | e | e
    · omega
    · cases e
    · cases e⟩
  clear h0 hb hbw
  have hd := do_1 H0.out (c0 k (by have := B2.out; omega)) (by omega) (by omega) (HM1.out.below F0.out.below) 0 0 [] [] [] fl ⟨by decide, by decide⟩ (by decide)
  rw [pf1, s0e, if_neg (by have := K2.out; omega : ¬ k < 2), if_pos rfl] at hd
  have HD1 := Lib.hid hd
  clear hd
  go_wp2_with fail
  rw [show (⟨#[47, 102, 105, 108, 101]⟩ : ByteArray) = str [47, 102, 105, 108, 101] from rfl]
  refine HD1.out.mono ?_
  rintro e u1 ⟨rfl, mt1, ml1, h, t⟩
  have H1 : Hid (IsT u1 b mt1 ml1 2 (S1 k)) := Lib.hid h
  have F1 := Lib.hid (F0.out.next t)
  clear h t HD1
  go_upto_region 12 with (fail)
  obtain ⟨v1, Hv1⟩ : ∃ u, Hid (u1.alloc (.cells #[.int .i64 0, .string (str []), .slice none 0 0, .int .i64 0, .int .i64 0, .int .i64 0, .int .i64 0] 29) = u) := ⟨_, Lib.hid rfl⟩
  obtain ⟨r1, Hr1⟩ : ∃ u, Hid (u1.heap.size = u) := ⟨_, Lib.hid rfl⟩
  have X1_1b : Hid (BoxC v1 r1 #[.int .i64 0, .string (str []), .slice none 0 0, .int .i64 0, .int .i64 0, .int .i64 0, .int .i64 0] 29) := Lib.hid (by rw [← Hv1.out, ← Hr1.out]; exact BoxC.new u1 _ _)
  have hbv : Below u1.heap.size u1 v1 := by rw [← Hv1.out]; exact balloc (Below.refl _ _) _
  have H1b := Lib.hid (H1.out.below hbv)
  have F1b := Lib.hid (F1.out.more hbv)
  clear hbv
  rw [Hv1.out, Hr1.out]
  have a1 : ¬ k < 2 := by have := K2.out; omega
  go_upto_region 14 with (fail)
  clear a1
  have hd := do_8 H1b.out (c1 k B2.out) (by omega) (by omega) (HM1.out.below F1b.out.below) 0 n [] [] [fl] ⟨by decide, by decide⟩ (by decide) (by decide) B1.out.1 B1.out.2 1 (s1w k) (1, 1, []) (s1t k) (by rw [s1l]; decide) sz HSZ.out HZ.out
  rw [pf2, s1e, ← HZ.out, HD.out, if_neg (by have := FK.out; omega : ¬ k - 2 < q), if_pos rfl] at hd
  have HD2 := Lib.hid hd
  clear hd
  have a1 := BQ.out
  have a2 := HX.out
  have a3 := T3.out
  have qq := HQ.out
  have rr := Hr.out
  go_wp2_with fail
  clear a1 a2 a3 qq rr
  rw [show (⟨#[47, 102, 105, 108, 101]⟩ : ByteArray) = str [47, 102, 105, 108, 101] from rfl]
  refine HD2.out.mono ?_
  rintro e u2 ⟨rfl, mt2, ml2, h, t⟩
  have H2 : Hid (IsT u2 b mt2 ml2 4 (S2 k sz)) := Lib.hid h
  have F2 := Lib.hid (F1b.out.next t)
  have X1_2 := Lib.hid (X1_1b.out.kept t.mod (H1b.out.notOwn X1_1b.out (fun x h => by cases h)))
  clear h t HD2
  go_upto_region 18 with (fail)
  obtain ⟨v2, Hv2⟩ : ∃ u, Hid (u2.alloc (.cells #[.int .i64 0, .string (str []), .slice none 0 0, .int .i64 0, .int .i64 0, .int .i64 0, .int .i64 0] 29) = u) := ⟨_, Lib.hid rfl⟩
  obtain ⟨r2, Hr2⟩ : ∃ u, Hid (u2.heap.size = u) := ⟨_, Lib.hid rfl⟩
  have X2_2b : Hid (BoxC v2 r2 #[.int .i64 0, .string (str []), .slice none 0 0, .int .i64 0, .int .i64 0, .int .i64 0, .int .i64 0] 29) := Lib.hid (by rw [← Hv2.out, ← Hr2.out]; exact BoxC.new u2 _ _)
  have hbv : Below u2.heap.size u2 v2 := by rw [← Hv2.out]; exact balloc (Below.refl _ _) _
  have X1_2b := Lib.hid (X1_2.out.below hbv)
  have H2b := Lib.hid (H2.out.below hbv)
  have F2b := Lib.hid (F2.out.more hbv)
  clear hbv
  rw [Hv2.out, Hr2.out]
  have a1 : ¬ k - 2 < q := by have := FK.out; omega
  have a2 := BQ.out
  have a3 := B2.out
  go_wp2_with fail
  clear a1 a2 a3
  refine (Free_any H2b.out).mono ?_
  rw [s2f, ← HZ.out, HD.out]
  rintro e u ⟨rfl, rfl⟩
  have hd := do_4 H2b.out (c2 k sz B2.out HSZ.out) (by omega) (by omega) (HM1.out.below F2b.out.below) 0 0 [] [] [] fl ⟨by decide, by decide⟩ (by decide) 1 (s2w k sz) (1, 1, sized [] sz) (s2t k sz) (by rw [s2l]; decide)
  rw [pf1, s2e, if_pos rfl] at hd
  have HD3 := Lib.hid hd
  clear hd
  go_wp2_with fail
  rw [show (⟨#[47, 102, 105, 108, 101]⟩ : ByteArray) = str [47, 102, 105, 108, 101] from rfl]
  refine HD3.out.mono ?_
  rintro e u3 ⟨rfl, mt3, ml3, h, t⟩
  have H3 : Hid (IsT u3 b mt3 ml3 6 (S3 k sz)) := Lib.hid h
  have F3 := Lib.hid (F2b.out.next t)
  have X1_3 := Lib.hid (X1_2b.out.kept t.mod (H2b.out.notOwn X1_2b.out (fun x h => by cases h)))
  have X2_3 := Lib.hid (X2_2b.out.kept t.mod (H2b.out.notOwn X2_2b.out (fun x h => by cases h)))
  clear h t HD3
  go_upto_region 22 with (fail)
  obtain ⟨v3, Hv3⟩ : ∃ u, Hid (u3.alloc (.cells #[.int .i64 0, .string (str []), .slice none 0 0, .int .i64 0, .int .i64 0, .int .i64 0, .int .i64 0] 29) = u) := ⟨_, Lib.hid rfl⟩
  obtain ⟨r3, Hr3⟩ : ∃ u, Hid (u3.heap.size = u) := ⟨_, Lib.hid rfl⟩
  have X3_3b : Hid (BoxC v3 r3 #[.int .i64 0, .string (str []), .slice none 0 0, .int .i64 0, .int .i64 0, .int .i64 0, .int .i64 0] 29) := Lib.hid (by rw [← Hv3.out, ← Hr3.out]; exact BoxC.new u3 _ _)
  have hbv : Below u3.heap.size u3 v3 := by rw [← Hv3.out]; exact balloc (Below.refl _ _) _
  have X1_3b := Lib.hid (X1_3.out.below hbv)
  have X2_3b := Lib.hid (X2_3.out.below hbv)
  have H3b := Lib.hid (H3.out.below hbv)
  have F3b := Lib.hid (F3.out.more hbv)
  clear hbv
  rw [Hv3.out, Hr3.out]
  have y1 := X1_3b.out.cell 0 rfl
  have y2 := X2_3b.out.cell 0 rfl
  have y3 := X3_3b.out.cell 0 rfl
  have a1 : ¬ k - 2 < q := by have := FK.out; omega
  have a2 := BQ.out
  have a3 := B2.out
  go_wp2_with fail
  refine (Free_any H3b.out).mono ?_
  rw [s3f]
  rintro e u ⟨rfl, rfl⟩
  go_wp2
  go_ret
  exact ⟨rfl, B0.out.trans (F3b.out.below.mono B0.out.size)⟩
set_option maxRecDepth 100000 in
set_option maxHeartbeats 8000000 in
theorem wC101 (size room n k : Int) (w : World) (_ : (Lit.int .i64 size).wf = true) (_ : (Lit.int .i64 room).wf = true) (hm : Mx w) (hs : size.tmod 6145 < 0) (hn : -size.tmod 6145 = n) (hr : 0 ≤ room.tmod 31) (hk : room.tmod 31 = k) (b1 : 0 ≤ n ∧ n ≤ 6144) (b2 : 2 ≤ k ∧ k ≤ 30) (q : Int) (bq : 0 ≤ q ∧ q ≤ 12) (hq : n.tdiv 512 = q) (hx : 0 < n.tmod 512) (hd : needI n = q + 1) (hf : q + 1 ≤ k - 2) (sz : Nat) (hz : n = (sz : Int)) :
    Calls Tryz.prog 5 #[.int .i64 size, .int .i64 room] w fun e w' => e = .returned (.bool true) ∧ Below w.heap.size w w' := by
  have HM := Lib.hid hm
  have HN := Lib.hid hn
  have HK := Lib.hid hk
  have T1 := Lib.hid (tb size 6145 (by omega))
  have T2 := Lib.hid (tb room 31 (by omega))
  have HS := Lib.hid hs
  have HR := Lib.hid hr
  have B1 := Lib.hid b1
  have K2 : Hid (¬ k < 2) := Lib.hid (by omega)
  have B2 : Hid (2 ≤ k ∧ k ≤ 30) := Lib.hid b2
  have HZ := Lib.hid hz
  have HQ := Lib.hid hq
  have HD := Lib.hid hd
  have HSZ : Hid (sz ≤ 6144) := Lib.hid (by omega)
  have BQ := Lib.hid bq
  obtain ⟨r, Hr⟩ : ∃ r, Hid (n.tmod 512 = r) := ⟨_, Lib.hid rfl⟩
  have T3 := Lib.hid (tb n 512 (by omega))
  rw [Hr.out] at T3 hx
  have HX := Lib.hid hx
  have FK : Hid (¬ k - 2 < q + 1) := Lib.hid (by omega)
  clear hz hq hd bq hx hf
  clear hm hn hk hs hr b1 b2
  go_enter Tryz.func5, Tryz.ntmps5
  go_wp2_with fail
  refine (awk16_any w HM.out).mono ?_
  rintro e w1 ⟨rfl, hb0⟩
  have B0 := Lib.hid hb0
  have HM1 := Lib.hid (HM.out.below hb0)
  clear hb0
  have a1 := HS.out
  have a2 := T1.out
  go_upto_region 5 with (fail)
  clear a1 a2
  have a1 := HR.out
  have a2 := T2.out
  go_wp2_with fail
  clear a1 a2
  rw [HN.out, HK.out]
  refine (TNew_any k w1 HM1.out).mono ?_
  rw [clk k (by have := B2.out; omega)]
  rintro e u0 ⟨b, rfl, hbw, h0, hb⟩
  have H0 : Hid (IsT u0 b none none 0 (newTr k)) := Lib.hid h0
  have F0 : Hid (Fresh w1 u0 b none none) := Lib.hid ⟨hb, fun g hg => by
    rcases hg with e | e | e
    · omega
    · cases e
    · cases e⟩
  clear h0 hb hbw
  have hd := do_1 H0.out (c0 k (by have := B2.out; omega)) (by omega) (by omega) (HM1.out.below F0.out.below) 0 0 [] [] [] fl ⟨by decide, by decide⟩ (by decide)
  rw [pf1, s0e, if_neg (by have := K2.out; omega : ¬ k < 2), if_pos rfl] at hd
  have HD1 := Lib.hid hd
  clear hd
  go_wp2_with fail
  rw [show (⟨#[47, 102, 105, 108, 101]⟩ : ByteArray) = str [47, 102, 105, 108, 101] from rfl]
  refine HD1.out.mono ?_
  rintro e u1 ⟨rfl, mt1, ml1, h, t⟩
  have H1 : Hid (IsT u1 b mt1 ml1 2 (S1 k)) := Lib.hid h
  have F1 := Lib.hid (F0.out.next t)
  clear h t HD1
  go_upto_region 12 with (fail)
  obtain ⟨v1, Hv1⟩ : ∃ u, Hid (u1.alloc (.cells #[.int .i64 0, .string (str []), .slice none 0 0, .int .i64 0, .int .i64 0, .int .i64 0, .int .i64 0] 29) = u) := ⟨_, Lib.hid rfl⟩
  obtain ⟨r1, Hr1⟩ : ∃ u, Hid (u1.heap.size = u) := ⟨_, Lib.hid rfl⟩
  have X1_1b : Hid (BoxC v1 r1 #[.int .i64 0, .string (str []), .slice none 0 0, .int .i64 0, .int .i64 0, .int .i64 0, .int .i64 0] 29) := Lib.hid (by rw [← Hv1.out, ← Hr1.out]; exact BoxC.new u1 _ _)
  have hbv : Below u1.heap.size u1 v1 := by rw [← Hv1.out]; exact balloc (Below.refl _ _) _
  have H1b := Lib.hid (H1.out.below hbv)
  have F1b := Lib.hid (F1.out.more hbv)
  clear hbv
  rw [Hv1.out, Hr1.out]
  have a1 : ¬ k < 2 := by have := K2.out; omega
  go_upto_region 14 with (fail)
  clear a1
  have hd := do_8 H1b.out (c1 k B2.out) (by omega) (by omega) (HM1.out.below F1b.out.below) 0 n [] [] [fl] ⟨by decide, by decide⟩ (by decide) (by decide) B1.out.1 B1.out.2 1 (s1w k) (1, 1, []) (s1t k) (by rw [s1l]; decide) sz HSZ.out HZ.out
  rw [pf2, s1e, ← HZ.out, HD.out, if_neg (by have := FK.out; omega : ¬ k - 2 < q + 1), if_pos rfl] at hd
  have HD2 := Lib.hid hd
  clear hd
  have a1 := BQ.out
  have a2 := HX.out
  have a3 := T3.out
  have qq := HQ.out
  have rr := Hr.out
  go_wp2_with fail
  clear a1 a2 a3 qq rr
  rw [show (⟨#[47, 102, 105, 108, 101]⟩ : ByteArray) = str [47, 102, 105, 108, 101] from rfl]
  refine HD2.out.mono ?_
  rintro e u2 ⟨rfl, mt2, ml2, h, t⟩
  have H2 : Hid (IsT u2 b mt2 ml2 4 (S2 k sz)) := Lib.hid h
  have F2 := Lib.hid (F1b.out.next t)
  have X1_2 := Lib.hid (X1_1b.out.kept t.mod (H1b.out.notOwn X1_1b.out (fun x h => by cases h)))
  clear h t HD2
  go_upto_region 18 with (fail)
  obtain ⟨v2, Hv2⟩ : ∃ u, Hid (u2.alloc (.cells #[.int .i64 0, .string (str []), .slice none 0 0, .int .i64 0, .int .i64 0, .int .i64 0, .int .i64 0] 29) = u) := ⟨_, Lib.hid rfl⟩
  obtain ⟨r2, Hr2⟩ : ∃ u, Hid (u2.heap.size = u) := ⟨_, Lib.hid rfl⟩
  have X2_2b : Hid (BoxC v2 r2 #[.int .i64 0, .string (str []), .slice none 0 0, .int .i64 0, .int .i64 0, .int .i64 0, .int .i64 0] 29) := Lib.hid (by rw [← Hv2.out, ← Hr2.out]; exact BoxC.new u2 _ _)
  have hbv : Below u2.heap.size u2 v2 := by rw [← Hv2.out]; exact balloc (Below.refl _ _) _
  have X1_2b := Lib.hid (X1_2.out.below hbv)
  have H2b := Lib.hid (H2.out.below hbv)
  have F2b := Lib.hid (F2.out.more hbv)
  clear hbv
  rw [Hv2.out, Hr2.out]
  have a1 : ¬ k - 2 < q + 1 := by have := FK.out; omega
  have a2 := BQ.out
  have a3 := B2.out
  go_wp2_with fail
  clear a1 a2 a3
  refine (Free_any H2b.out).mono ?_
  rw [s2f, ← HZ.out, HD.out]
  rintro e u ⟨rfl, rfl⟩
  have hd := do_4 H2b.out (c2 k sz B2.out HSZ.out) (by omega) (by omega) (HM1.out.below F2b.out.below) 0 0 [] [] [] fl ⟨by decide, by decide⟩ (by decide) 1 (s2w k sz) (1, 1, sized [] sz) (s2t k sz) (by rw [s2l]; decide)
  rw [pf1, s2e, if_pos rfl] at hd
  have HD3 := Lib.hid hd
  clear hd
  go_wp2_with fail
  rw [show (⟨#[47, 102, 105, 108, 101]⟩ : ByteArray) = str [47, 102, 105, 108, 101] from rfl]
  refine HD3.out.mono ?_
  rintro e u3 ⟨rfl, mt3, ml3, h, t⟩
  have H3 : Hid (IsT u3 b mt3 ml3 6 (S3 k sz)) := Lib.hid h
  have F3 := Lib.hid (F2b.out.next t)
  have X1_3 := Lib.hid (X1_2b.out.kept t.mod (H2b.out.notOwn X1_2b.out (fun x h => by cases h)))
  have X2_3 := Lib.hid (X2_2b.out.kept t.mod (H2b.out.notOwn X2_2b.out (fun x h => by cases h)))
  clear h t HD3
  go_upto_region 22 with (fail)
  obtain ⟨v3, Hv3⟩ : ∃ u, Hid (u3.alloc (.cells #[.int .i64 0, .string (str []), .slice none 0 0, .int .i64 0, .int .i64 0, .int .i64 0, .int .i64 0] 29) = u) := ⟨_, Lib.hid rfl⟩
  obtain ⟨r3, Hr3⟩ : ∃ u, Hid (u3.heap.size = u) := ⟨_, Lib.hid rfl⟩
  have X3_3b : Hid (BoxC v3 r3 #[.int .i64 0, .string (str []), .slice none 0 0, .int .i64 0, .int .i64 0, .int .i64 0, .int .i64 0] 29) := Lib.hid (by rw [← Hv3.out, ← Hr3.out]; exact BoxC.new u3 _ _)
  have hbv : Below u3.heap.size u3 v3 := by rw [← Hv3.out]; exact balloc (Below.refl _ _) _
  have X1_3b := Lib.hid (X1_3.out.below hbv)
  have X2_3b := Lib.hid (X2_3.out.below hbv)
  have H3b := Lib.hid (H3.out.below hbv)
  have F3b := Lib.hid (F3.out.more hbv)
  clear hbv
  rw [Hv3.out, Hr3.out]
  have y1 := X1_3b.out.cell 0 rfl
  have y2 := X2_3b.out.cell 0 rfl
  have y3 := X3_3b.out.cell 0 rfl
  have a1 : ¬ k - 2 < q + 1 := by have := FK.out; omega
  have a2 := BQ.out
  have a3 := B2.out
  go_wp2_with fail
  refine (Free_any H3b.out).mono ?_
  rw [s3f]
  rintro e u ⟨rfl, rfl⟩
  go_wp2
  go_ret
  exact ⟨rfl, B0.out.trans (F3b.out.below.mono B0.out.size)⟩
set_option maxRecDepth 100000 in
set_option maxHeartbeats 8000000 in
theorem wC100 (size room n k : Int) (w : World) (_ : (Lit.int .i64 size).wf = true) (_ : (Lit.int .i64 room).wf = true) (hm : Mx w) (hs : size.tmod 6145 < 0) (hn : -size.tmod 6145 = n) (hr : 0 ≤ room.tmod 31) (hk : room.tmod 31 = k) (b1 : 0 ≤ n ∧ n ≤ 6144) (b2 : 2 ≤ k ∧ k ≤ 30) (q : Int) (bq : 0 ≤ q ∧ q ≤ 12) (hq : n.tdiv 512 = q) (hx : ¬ 0 < n.tmod 512) (hd : needI n = q) (hf : q ≤ k - 2) (sz : Nat) (hz : n = (sz : Int)) :
    Calls Tryz.prog 5 #[.int .i64 size, .int .i64 room] w fun e w' => e = .returned (.bool true) ∧ Below w.heap.size w w' := by
  have HM := Lib.hid hm
  have HN := Lib.hid hn
  have HK := Lib.hid hk
  have T1 := Lib.hid (tb size 6145 (by omega))
  have T2 := Lib.hid (tb room 31 (by omega))
  have HS := Lib.hid hs
  have HR := Lib.hid hr
  have B1 := Lib.hid b1
  have K2 : Hid (¬ k < 2) := Lib.hid (by omega)
  have B2 : Hid (2 ≤ k ∧ k ≤ 30) := Lib.hid b2
  have HZ := Lib.hid hz
  have HQ := Lib.hid hq
  have HD := Lib.hid hd
  have HSZ : Hid (sz ≤ 6144) := Lib.hid (by omega)
  have BQ := Lib.hid bq
  obtain ⟨r, Hr⟩ : ∃ r, Hid (n.tmod 512 = r) := ⟨_, Lib.hid rfl⟩
  have T3 := Lib.hid (tb n 512 (by omega))
  rw [Hr.out] at T3 hx
  have HX := Lib.hid hx
  have FK : Hid (¬ k - 2 < q) := Lib.hid (by omega)
  clear hz hq hd bq hx hf
  clear hm hn hk hs hr b1 b2
  go_enter Tryz.func5, Tryz.ntmps5
  go_wp2_with fail
  refine (awk16_any w HM.out).mono ?_
  rintro e w1 ⟨rfl, hb0⟩
  have B0 := Lib.hid hb0
  have HM1 := Lib.hid (HM.out.below hb0)
  clear hb0
  have a1 := HS.out
  have a2 := T1.out
  go_upto_region 5 with (fail)
  clear a1 a2
  have a1 := HR.out
  have a2 := T2.out
  go_wp2_with fail
  clear a1 a2
  rw [HN.out, HK.out]
  refine (TNew_any k w1 HM1.out).mono ?_
  rw [clk k (by have := B2.out; omega)]
  rintro e u0 ⟨b, rfl, hbw, h0, hb⟩
  have H0 : Hid (IsT u0 b none none 0 (newTr k)) := Lib.hid h0
  have F0 : Hid (Fresh w1 u0 b none none) := Lib.hid ⟨hb, fun g hg => by
    rcases hg with e | e | e
    · omega
    · cases e
    · cases e⟩
  clear h0 hb hbw
  have hd := do_1 H0.out (c0 k (by have := B2.out; omega)) (by omega) (by omega) (HM1.out.below F0.out.below) 0 0 [] [] [] fl ⟨by decide, by decide⟩ (by decide)
  rw [pf1, s0e, if_neg (by have := K2.out; omega : ¬ k < 2), if_pos rfl] at hd
  have HD1 := Lib.hid hd
  clear hd
  go_wp2_with fail
  rw [show (⟨#[47, 102, 105, 108, 101]⟩ : ByteArray) = str [47, 102, 105, 108, 101] from rfl]
  refine HD1.out.mono ?_
  rintro e u1 ⟨rfl, mt1, ml1, h, t⟩
  have H1 : Hid (IsT u1 b mt1 ml1 2 (S1 k)) := Lib.hid h
  have F1 := Lib.hid (F0.out.next t)
  clear h t HD1
  go_upto_region 12 with (fail)
  obtain ⟨v1, Hv1⟩ : ∃ u, Hid (u1.alloc (.cells #[.int .i64 0, .string (str []), .slice none 0 0, .int .i64 0, .int .i64 0, .int .i64 0, .int .i64 0] 29) = u) := ⟨_, Lib.hid rfl⟩
  obtain ⟨r1, Hr1⟩ : ∃ u, Hid (u1.heap.size = u) := ⟨_, Lib.hid rfl⟩
  have X1_1b : Hid (BoxC v1 r1 #[.int .i64 0, .string (str []), .slice none 0 0, .int .i64 0, .int .i64 0, .int .i64 0, .int .i64 0] 29) := Lib.hid (by rw [← Hv1.out, ← Hr1.out]; exact BoxC.new u1 _ _)
  have hbv : Below u1.heap.size u1 v1 := by rw [← Hv1.out]; exact balloc (Below.refl _ _) _
  have H1b := Lib.hid (H1.out.below hbv)
  have F1b := Lib.hid (F1.out.more hbv)
  clear hbv
  rw [Hv1.out, Hr1.out]
  have a1 : ¬ k < 2 := by have := K2.out; omega
  go_upto_region 14 with (fail)
  clear a1
  have hd := do_8 H1b.out (c1 k B2.out) (by omega) (by omega) (HM1.out.below F1b.out.below) 0 n [] [] [fl] ⟨by decide, by decide⟩ (by decide) (by decide) B1.out.1 B1.out.2 1 (s1w k) (1, 1, []) (s1t k) (by rw [s1l]; decide) sz HSZ.out HZ.out
  rw [pf2, s1e, ← HZ.out, HD.out, if_neg (by have := FK.out; omega : ¬ k - 2 < q), if_pos rfl] at hd
  have HD2 := Lib.hid hd
  clear hd
  have a1 := BQ.out
  have a2 := HX.out
  have a3 := T3.out
  have qq := HQ.out
  have rr := Hr.out
  go_wp2_with fail
  clear a1 a2 a3 qq rr
  rw [show (⟨#[47, 102, 105, 108, 101]⟩ : ByteArray) = str [47, 102, 105, 108, 101] from rfl]
  refine HD2.out.mono ?_
  rintro e u2 ⟨rfl, mt2, ml2, h, t⟩
  have H2 : Hid (IsT u2 b mt2 ml2 4 (S2 k sz)) := Lib.hid h
  have F2 := Lib.hid (F1b.out.next t)
  have X1_2 := Lib.hid (X1_1b.out.kept t.mod (H1b.out.notOwn X1_1b.out (fun x h => by cases h)))
  clear h t HD2
  go_upto_region 18 with (fail)
  obtain ⟨v2, Hv2⟩ : ∃ u, Hid (u2.alloc (.cells #[.int .i64 0, .string (str []), .slice none 0 0, .int .i64 0, .int .i64 0, .int .i64 0, .int .i64 0] 29) = u) := ⟨_, Lib.hid rfl⟩
  obtain ⟨r2, Hr2⟩ : ∃ u, Hid (u2.heap.size = u) := ⟨_, Lib.hid rfl⟩
  have X2_2b : Hid (BoxC v2 r2 #[.int .i64 0, .string (str []), .slice none 0 0, .int .i64 0, .int .i64 0, .int .i64 0, .int .i64 0] 29) := Lib.hid (by rw [← Hv2.out, ← Hr2.out]; exact BoxC.new u2 _ _)
  have hbv : Below u2.heap.size u2 v2 := by rw [← Hv2.out]; exact balloc (Below.refl _ _) _
  have X1_2b := Lib.hid (X1_2.out.below hbv)
  have H2b := Lib.hid (H2.out.below hbv)
  have F2b := Lib.hid (F2.out.more hbv)
  clear hbv
  rw [Hv2.out, Hr2.out]
  have a1 : ¬ k - 2 < q := by have := FK.out; omega
  have a2 := BQ.out
  have a3 := B2.out
  go_wp2_with fail
  clear a1 a2 a3
  refine (Free_any H2b.out).mono ?_
  rw [s2f, ← HZ.out, HD.out]
  rintro e u ⟨rfl, rfl⟩
  have hd := do_4 H2b.out (c2 k sz B2.out HSZ.out) (by omega) (by omega) (HM1.out.below F2b.out.below) 0 0 [] [] [] fl ⟨by decide, by decide⟩ (by decide) 1 (s2w k sz) (1, 1, sized [] sz) (s2t k sz) (by rw [s2l]; decide)
  rw [pf1, s2e, if_pos rfl] at hd
  have HD3 := Lib.hid hd
  clear hd
  go_wp2_with fail
  rw [show (⟨#[47, 102, 105, 108, 101]⟩ : ByteArray) = str [47, 102, 105, 108, 101] from rfl]
  refine HD3.out.mono ?_
  rintro e u3 ⟨rfl, mt3, ml3, h, t⟩
  have H3 : Hid (IsT u3 b mt3 ml3 6 (S3 k sz)) := Lib.hid h
  have F3 := Lib.hid (F2b.out.next t)
  have X1_3 := Lib.hid (X1_2b.out.kept t.mod (H2b.out.notOwn X1_2b.out (fun x h => by cases h)))
  have X2_3 := Lib.hid (X2_2b.out.kept t.mod (H2b.out.notOwn X2_2b.out (fun x h => by cases h)))
  clear h t HD3
  go_upto_region 22 with (fail)
  obtain ⟨v3, Hv3⟩ : ∃ u, Hid (u3.alloc (.cells #[.int .i64 0, .string (str []), .slice none 0 0, .int .i64 0, .int .i64 0, .int .i64 0, .int .i64 0] 29) = u) := ⟨_, Lib.hid rfl⟩
  obtain ⟨r3, Hr3⟩ : ∃ u, Hid (u3.heap.size = u) := ⟨_, Lib.hid rfl⟩
  have X3_3b : Hid (BoxC v3 r3 #[.int .i64 0, .string (str []), .slice none 0 0, .int .i64 0, .int .i64 0, .int .i64 0, .int .i64 0] 29) := Lib.hid (by rw [← Hv3.out, ← Hr3.out]; exact BoxC.new u3 _ _)
  have hbv : Below u3.heap.size u3 v3 := by rw [← Hv3.out]; exact balloc (Below.refl _ _) _
  have X1_3b := Lib.hid (X1_3.out.below hbv)
  have X2_3b := Lib.hid (X2_3.out.below hbv)
  have H3b := Lib.hid (H3.out.below hbv)
  have F3b := Lib.hid (F3.out.more hbv)
  clear hbv
  rw [Hv3.out, Hr3.out]
  have y1 := X1_3b.out.cell 0 rfl
  have y2 := X2_3b.out.cell 0 rfl
  have y3 := X3_3b.out.cell 0 rfl
  have a1 : ¬ k - 2 < q := by have := FK.out; omega
  have a2 := BQ.out
  have a3 := B2.out
  go_wp2_with fail
  refine (Free_any H3b.out).mono ?_
  rw [s3f]
  rintro e u ⟨rfl, rfl⟩
  go_wp2
  go_ret
  exact ⟨rfl, B0.out.trans (F3b.out.below.mono B0.out.size)⟩
set_option maxRecDepth 100000 in
set_option maxHeartbeats 8000000 in
theorem wC011 (size room n k : Int) (w : World) (_ : (Lit.int .i64 size).wf = true) (_ : (Lit.int .i64 room).wf = true) (hm : Mx w) (hs : 0 ≤ size.tmod 6145) (hn : size.tmod 6145 = n) (hr : room.tmod 31 < 0) (hk : -room.tmod 31 = k) (b1 : 0 ≤ n ∧ n ≤ 6144) (b2 : 2 ≤ k ∧ k ≤ 30) (q : Int) (bq : 0 ≤ q ∧ q ≤ 12) (hq : n.tdiv 512 = q) (hx : 0 < n.tmod 512) (hd : needI n = q + 1) (hf : q + 1 ≤ k - 2) (sz : Nat) (hz : n = (sz : Int)) :
    Calls Tryz.prog 5 #[.int .i64 size, .int .i64 room] w fun e w' => e = .returned (.bool true) ∧ Below w.heap.size w w' := by
  have HM := Lib.hid hm
  have HN := Lib.hid hn
  have HK := Lib.hid hk
  have T1 := Lib.hid (tb size 6145 (by omega))
  have T2 := Lib.hid (tb room 31 (by omega))
  have HS := Lib.hid hs
  have HR := Lib.hid hr
  have B1 := Lib.hid b1
  have K2 : Hid (¬ k < 2) := Lib.hid (by omega)
  have B2 : Hid (2 ≤ k ∧ k ≤ 30) := Lib.hid b2
  have HZ := Lib.hid hz
  have HQ := Lib.hid hq
  have HD := Lib.hid hd
  have HSZ : Hid (sz ≤ 6144) := Lib.hid (by omega)
  have BQ := Lib.hid bq
  obtain ⟨r, Hr⟩ : ∃ r, Hid (n.tmod 512 = r) := ⟨_, Lib.hid rfl⟩
  have T3 := Lib.hid (tb n 512 (by omega))
  rw [Hr.out] at T3 hx
  have HX := Lib.hid hx
  have FK : Hid (¬ k - 2 < q + 1) := Lib.hid (by omega)
  clear hz hq hd bq hx hf
  clear hm hn hk hs hr b1 b2
  go_enter Tryz.func5, Tryz.ntmps5
  go_wp2_with fail
  refine (awk16_any w HM.out).mono ?_
  rintro e w1 ⟨rfl, hb0⟩
  have B0 := Lib.hid hb0
  have HM1 := Lib.hid (HM.out.below hb0)
  clear hb0
  have a1 := HS.out
  have a2 := T1.out
  go_upto_region 5 with (fail)
  clear a1 a2
  have a1 := HR.out
  have a2 := T2.out
  go_wp2_with fail
  clear a1 a2
  rw [HN.out, HK.out]
  refine (TNew_any k w1 HM1.out).mono ?_
  rw [clk k (by have := B2.out; omega)]
  rintro e u0 ⟨b, rfl, hbw, h0, hb⟩
  have H0 : Hid (IsT u0 b none none 0 (newTr k)) := Lib.hid h0
  have F0 : Hid (Fresh w1 u0 b none none) := Lib.hid ⟨hb, fun g hg => by
    rcases hg with e | e | e
    · omega
    · cases e
    · cases e⟩
  clear h0 hb hbw
  have hd := do_1 H0.out (c0 k (by have := B2.out; omega)) (by omega) (by omega) (HM1.out.below F0.out.below) 0 0 [] [] [] fl ⟨by decide, by decide⟩ (by decide)
  rw [pf1, s0e, if_neg (by have := K2.out; omega : ¬ k < 2), if_pos rfl] at hd
  have HD1 := Lib.hid hd
  clear hd
  go_wp2_with fail
  rw [show (⟨#[47, 102, 105, 108, 101]⟩ : ByteArray) = str [47, 102, 105, 108, 101] from rfl]
  refine HD1.out.mono ?_
  rintro e u1 ⟨rfl, mt1, ml1, h, t⟩
  have H1 : Hid (IsT u1 b mt1 ml1 2 (S1 k)) := Lib.hid h
  have F1 := Lib.hid (F0.out.next t)
  clear h t HD1
  go_upto_region 12 with (fail)
  obtain ⟨v1, Hv1⟩ : ∃ u, Hid (u1.alloc (.cells #[.int .i64 0, .string (str []), .slice none 0 0, .int .i64 0, .int .i64 0, .int .i64 0, .int .i64 0] 29) = u) := ⟨_, Lib.hid rfl⟩
  obtain ⟨r1, Hr1⟩ : ∃ u, Hid (u1.heap.size = u) := ⟨_, Lib.hid rfl⟩
  have X1_1b : Hid (BoxC v1 r1 #[.int .i64 0, .string (str []), .slice none 0 0, .int .i64 0, .int .i64 0, .int .i64 0, .int .i64 0] 29) := Lib.hid (by rw [← Hv1.out, ← Hr1.out]; exact BoxC.new u1 _ _)
  have hbv : Below u1.heap.size u1 v1 := by rw [← Hv1.out]; exact balloc (Below.refl _ _) _
  have H1b := Lib.hid (H1.out.below hbv)
  have F1b := Lib.hid (F1.out.more hbv)
  clear hbv
  rw [Hv1.out, Hr1.out]
  have a1 : ¬ k < 2 := by have := K2.out; omega
  go_upto_region 14 with (fail)
  clear a1
  have hd := do_8 H1b.out (c1 k B2.out) (by omega) (by omega) (HM1.out.below F1b.out.below) 0 n [] [] [fl] ⟨by decide, by decide⟩ (by decide) (by decide) B1.out.1 B1.out.2 1 (s1w k) (1, 1, []) (s1t k) (by rw [s1l]; decide) sz HSZ.out HZ.out
  rw [pf2, s1e, ← HZ.out, HD.out, if_neg (by have := FK.out; omega : ¬ k - 2 < q + 1), if_pos rfl] at hd
  have HD2 := Lib.hid hd
  clear hd
  have a1 := BQ.out
  have a2 := HX.out
  have a3 := T3.out
  have qq := HQ.out
  have rr := Hr.out
  go_wp2_with fail
  clear a1 a2 a3 qq rr
  rw [show (⟨#[47, 102, 105, 108, 101]⟩ : ByteArray) = str [47, 102, 105, 108, 101] from rfl]
  refine HD2.out.mono ?_
  rintro e u2 ⟨rfl, mt2, ml2, h, t⟩
  have H2 : Hid (IsT u2 b mt2 ml2 4 (S2 k sz)) := Lib.hid h
  have F2 := Lib.hid (F1b.out.next t)
  have X1_2 := Lib.hid (X1_1b.out.kept t.mod (H1b.out.notOwn X1_1b.out (fun x h => by cases h)))
  clear h t HD2
  go_upto_region 18 with (fail)
  obtain ⟨v2, Hv2⟩ : ∃ u, Hid (u2.alloc (.cells #[.int .i64 0, .string (str []), .slice none 0 0, .int .i64 0, .int .i64 0, .int .i64 0, .int .i64 0] 29) = u) := ⟨_, Lib.hid rfl⟩
  obtain ⟨r2, Hr2⟩ : ∃ u, Hid (u2.heap.size = u) := ⟨_, Lib.hid rfl⟩
  have X2_2b : Hid (BoxC v2 r2 #[.int .i64 0, .string (str []), .slice none 0 0, .int .i64 0, .int .i64 0, .int .i64 0, .int .i64 0] 29) := Lib.hid (by rw [← Hv2.out, ← Hr2.out]; exact BoxC.new u2 _ _)
  have hbv : Below u2.heap.size u2 v2 := by rw [← Hv2.out]; exact balloc (Below.refl _ _) _
  have X1_2b := Lib.hid (X1_2.out.below hbv)
  have H2b := Lib.hid (H2.out.below hbv)
  have F2b := Lib.hid (F2.out.more hbv)
  clear hbv
  rw [Hv2.out, Hr2.out]
  have a1 : ¬ k - 2 < q + 1 := by have := FK.out; omega
  have a2 := BQ.out
  have a3 := B2.out
  go_wp2_with fail
  clear a1 a2 a3
  refine (Free_any H2b.out).mono ?_
  rw [s2f, ← HZ.out, HD.out]
  rintro e u ⟨rfl, rfl⟩
  have hd := do_4 H2b.out (c2 k sz B2.out HSZ.out) (by omega) (by omega) (HM1.out.below F2b.out.below) 0 0 [] [] [] fl ⟨by decide, by decide⟩ (by decide) 1 (s2w k sz) (1, 1, sized [] sz) (s2t k sz) (by rw [s2l]; decide)
  rw [pf1, s2e, if_pos rfl] at hd
  have HD3 := Lib.hid hd
  clear hd
  go_wp2_with fail
  rw [show (⟨#[47, 102, 105, 108, 101]⟩ : ByteArray) = str [47, 102, 105, 108, 101] from rfl]
  refine HD3.out.mono ?_
  rintro e u3 ⟨rfl, mt3, ml3, h, t⟩
  have H3 : Hid (IsT u3 b mt3 ml3 6 (S3 k sz)) := Lib.hid h
  have F3 := Lib.hid (F2b.out.next t)
  have X1_3 := Lib.hid (X1_2b.out.kept t.mod (H2b.out.notOwn X1_2b.out (fun x h => by cases h)))
  have X2_3 := Lib.hid (X2_2b.out.kept t.mod (H2b.out.notOwn X2_2b.out (fun x h => by cases h)))
  clear h t HD3
  go_upto_region 22 with (fail)
  obtain ⟨v3, Hv3⟩ : ∃ u, Hid (u3.alloc (.cells #[.int .i64 0, .string (str []), .slice none 0 0, .int .i64 0, .int .i64 0, .int .i64 0, .int .i64 0] 29) = u) := ⟨_, Lib.hid rfl⟩
  obtain ⟨r3, Hr3⟩ : ∃ u, Hid (u3.heap.size = u) := ⟨_, Lib.hid rfl⟩
  have X3_3b : Hid (BoxC v3 r3 #[.int .i64 0, .string (str []), .slice none 0 0, .int .i64 0, .int .i64 0, .int .i64 0, .int .i64 0] 29) := Lib.hid (by rw [← Hv3.out, ← Hr3.out]; exact BoxC.new u3 _ _)
  have hbv : Below u3.heap.size u3 v3 := by rw [← Hv3.out]; exact balloc (Below.refl _ _) _
  have X1_3b := Lib.hid (X1_3.out.below hbv)
  have X2_3b := Lib.hid (X2_3.out.below hbv)
  have H3b := Lib.hid (H3.out.below hbv)
  have F3b := Lib.hid (F3.out.more hbv)
  clear hbv
  rw [Hv3.out, Hr3.out]
  have y1 := X1_3b.out.cell 0 rfl
  have y2 := X2_3b.out.cell 0 rfl
  have y3 := X3_3b.out.cell 0 rfl
  have a1 : ¬ k - 2 < q + 1 := by have := FK.out; omega
  have a2 := BQ.out
  have a3 := B2.out
  go_wp2_with fail
  refine (Free_any H3b.out).mono ?_
  rw [s3f]
  rintro e u ⟨rfl, rfl⟩
  go_wp2
  go_ret
  exact ⟨rfl, B0.out.trans (F3b.out.below.mono B0.out.size)⟩
set_option maxRecDepth 100000 in
set_option maxHeartbeats 8000000 in
theorem wC010 (size room n k : Int) (w : World) (_ : (Lit.int .i64 size).wf = true) (_ : (Lit.int .i64 room).wf = true) (hm : Mx w) (hs : 0 ≤ size.tmod 6145) (hn : size.tmod 6145 = n) (hr : room.tmod 31 < 0) (hk : -room.tmod 31 = k) (b1 : 0 ≤ n ∧ n ≤ 6144) (b2 : 2 ≤ k ∧ k ≤ 30) (q : Int) (bq : 0 ≤ q ∧ q ≤ 12) (hq : n.tdiv 512 = q) (hx : ¬ 0 < n.tmod 512) (hd : needI n = q) (hf : q ≤ k - 2) (sz : Nat) (hz : n = (sz : Int)) :
    Calls Tryz.prog 5 #[.int .i64 size, .int .i64 room] w fun e w' => e = .returned (.bool true) ∧ Below w.heap.size w w' := by
  have HM := Lib.hid hm
  have HN := Lib.hid hn
  have HK := Lib.hid hk
  have T1 := Lib.hid (tb size 6145 (by omega))
  have T2 := Lib.hid (tb room 31 (by omega))
  have HS := Lib.hid hs
  have HR := Lib.hid hr
  have B1 := Lib.hid b1
  have K2 : Hid (¬ k < 2) := Lib.hid (by omega)
  have B2 : Hid (2 ≤ k ∧ k ≤ 30) := Lib.hid b2
  have HZ := Lib.hid hz
  have HQ := Lib.hid hq
  have HD := Lib.hid hd
  have HSZ : Hid (sz ≤ 6144) := Lib.hid (by omega)
  have BQ := Lib.hid bq
  obtain ⟨r, Hr⟩ : ∃ r, Hid (n.tmod 512 = r) := ⟨_, Lib.hid rfl⟩
  have T3 := Lib.hid (tb n 512 (by omega))
  rw [Hr.out] at T3 hx
  have HX := Lib.hid hx
  have FK : Hid (¬ k - 2 < q) := Lib.hid (by omega)
  clear hz hq hd bq hx hf
  clear hm hn hk hs hr b1 b2
  go_enter Tryz.func5, Tryz.ntmps5
  go_wp2_with fail
  refine (awk16_any w HM.out).mono ?_
  rintro e w1 ⟨rfl, hb0⟩
  have B0 := Lib.hid hb0
  have HM1 := Lib.hid (HM.out.below hb0)
  clear hb0
  have a1 := HS.out
  have a2 := T1.out
  go_upto_region 5 with (fail)
  clear a1 a2
  have a1 := HR.out
  have a2 := T2.out
  go_wp2_with fail
  clear a1 a2
  rw [HN.out, HK.out]
  refine (TNew_any k w1 HM1.out).mono ?_
  rw [clk k (by have := B2.out; omega)]
  rintro e u0 ⟨b, rfl, hbw, h0, hb⟩
  have H0 : Hid (IsT u0 b none none 0 (newTr k)) := Lib.hid h0
  have F0 : Hid (Fresh w1 u0 b none none) := Lib.hid ⟨hb, fun g hg => by
    rcases hg with e | e | e
    · omega
    · cases e
    · cases e⟩
  clear h0 hb hbw
  have hd := do_1 H0.out (c0 k (by have := B2.out; omega)) (by omega) (by omega) (HM1.out.below F0.out.below) 0 0 [] [] [] fl ⟨by decide, by decide⟩ (by decide)
  rw [pf1, s0e, if_neg (by have := K2.out; omega : ¬ k < 2), if_pos rfl] at hd
  have HD1 := Lib.hid hd
  clear hd
  go_wp2_with fail
  rw [show (⟨#[47, 102, 105, 108, 101]⟩ : ByteArray) = str [47, 102, 105, 108, 101] from rfl]
  refine HD1.out.mono ?_
  rintro e u1 ⟨rfl, mt1, ml1, h, t⟩
  have H1 : Hid (IsT u1 b mt1 ml1 2 (S1 k)) := Lib.hid h
  have F1 := Lib.hid (F0.out.next t)
  clear h t HD1
  go_upto_region 12 with (fail)
  obtain ⟨v1, Hv1⟩ : ∃ u, Hid (u1.alloc (.cells #[.int .i64 0, .string (str []), .slice none 0 0, .int .i64 0, .int .i64 0, .int .i64 0, .int .i64 0] 29) = u) := ⟨_, Lib.hid rfl⟩
  obtain ⟨r1, Hr1⟩ : ∃ u, Hid (u1.heap.size = u) := ⟨_, Lib.hid rfl⟩
  have X1_1b : Hid (BoxC v1 r1 #[.int .i64 0, .string (str []), .slice none 0 0, .int .i64 0, .int .i64 0, .int .i64 0, .int .i64 0] 29) := Lib.hid (by rw [← Hv1.out, ← Hr1.out]; exact BoxC.new u1 _ _)
  have hbv : Below u1.heap.size u1 v1 := by rw [← Hv1.out]; exact balloc (Below.refl _ _) _
  have H1b := Lib.hid (H1.out.below hbv)
  have F1b := Lib.hid (F1.out.more hbv)
  clear hbv
  rw [Hv1.out, Hr1.out]
  have a1 : ¬ k < 2 := by have := K2.out; omega
  go_upto_region 14 with (fail)
  clear a1
  have hd := do_8 H1b.out (c1 k B2.out) (by omega) (by omega) (HM1.out.below F1b.out.below) 0 n [] [] [fl] ⟨by decide, by decide⟩ (by decide) (by decide) B1.out.1 B1.out.2 1 (s1w k) (1, 1, []) (s1t k) (by rw [s1l]; decide) sz HSZ.out HZ.out
  rw [pf2, s1e, ← HZ.out, HD.out, if_neg (by have := FK.out; omega : ¬ k - 2 < q), if_pos rfl] at hd
  have HD2 := Lib.hid hd
  clear hd
  have a1 := BQ.out
  have a2 := HX.out
  have a3 := T3.out
  have qq := HQ.out
  have rr := Hr.out
  go_wp2_with fail
  clear a1 a2 a3 qq rr
  rw [show (⟨#[47, 102, 105, 108, 101]⟩ : ByteArray) = str [47, 102, 105, 108, 101] from rfl]
  refine HD2.out.mono ?_
  rintro e u2 ⟨rfl, mt2, ml2, h, t⟩
  have H2 : Hid (IsT u2 b mt2 ml2 4 (S2 k sz)) := Lib.hid h
  have F2 := Lib.hid (F1b.out.next t)
  have X1_2 := Lib.hid (X1_1b.out.kept t.mod (H1b.out.notOwn X1_1b.out (fun x h => by cases h)))
  clear h t HD2
  go_upto_region 18 with (fail)
  obtain ⟨v2, Hv2⟩ : ∃ u, Hid (u2.alloc (.cells #[.int .i64 0, .string (str []), .slice none 0 0, .int .i64 0, .int .i64 0, .int .i64 0, .int .i64 0] 29) = u) := ⟨_, Lib.hid rfl⟩
  obtain ⟨r2, Hr2⟩ : ∃ u, Hid (u2.heap.size = u) := ⟨_, Lib.hid rfl⟩
  have X2_2b : Hid (BoxC v2 r2 #[.int .i64 0, .string (str []), .slice none 0 0, .int .i64 0, .int .i64 0, .int .i64 0, .int .i64 0] 29) := Lib.hid (by rw [← Hv2.out, ← Hr2.out]; exact BoxC.new u2 _ _)
  have hbv : Below u2.heap.size u2 v2 := by rw [← Hv2.out]; exact balloc (Below.refl _ _) _
  have X1_2b := Lib.hid (X1_2.out.below hbv)
  have H2b := Lib.hid (H2.out.below hbv)
  have F2b := Lib.hid (F2.out.more hbv)
  clear hbv
  rw [Hv2.out, Hr2.out]
  have a1 : ¬ k - 2 < q := by have := FK.out; omega
  have a2 := BQ.out
  have a3 := B2.out
  go_wp2_with fail
  clear a1 a2 a3
  refine (Free_any H2b.out).mono ?_
  rw [s2f, ← HZ.out, HD.out]
  rintro e u ⟨rfl, rfl⟩
  have hd := do_4 H2b.out (c2 k sz B2.out HSZ.out) (by omega) (by omega) (HM1.out.below F2b.out.below) 0 0 [] [] [] fl ⟨by decide, by decide⟩ (by decide) 1 (s2w k sz) (1, 1, sized [] sz) (s2t k sz) (by rw [s2l]; decide)
  rw [pf1, s2e, if_pos rfl] at hd
  have HD3 := Lib.hid hd
  clear hd
  go_wp2_with fail
  rw [show (⟨#[47, 102, 105, 108, 101]⟩ : ByteArray) = str [47, 102, 105, 108, 101] from rfl]
  refine HD3.out.mono ?_
  rintro e u3 ⟨rfl, mt3, ml3, h, t⟩
  have H3 : Hid (IsT u3 b mt3 ml3 6 (S3 k sz)) := Lib.hid h
  have F3 := Lib.hid (F2b.out.next t)
  have X1_3 := Lib.hid (X1_2b.out.kept t.mod (H2b.out.notOwn X1_2b.out (fun x h => by cases h)))
  have X2_3 := Lib.hid (X2_2b.out.kept t.mod (H2b.out.notOwn X2_2b.out (fun x h => by cases h)))
  clear h t HD3
  go_upto_region 22 with (fail)
  obtain ⟨v3, Hv3⟩ : ∃ u, Hid (u3.alloc (.cells #[.int .i64 0, .string (str []), .slice none 0 0, .int .i64 0, .int .i64 0, .int .i64 0, .int .i64 0] 29) = u) := ⟨_, Lib.hid rfl⟩
  obtain ⟨r3, Hr3⟩ : ∃ u, Hid (u3.heap.size = u) := ⟨_, Lib.hid rfl⟩
  have X3_3b : Hid (BoxC v3 r3 #[.int .i64 0, .string (str []), .slice none 0 0, .int .i64 0, .int .i64 0, .int .i64 0, .int .i64 0] 29) := Lib.hid (by rw [← Hv3.out, ← Hr3.out]; exact BoxC.new u3 _ _)
  have hbv : Below u3.heap.size u3 v3 := by rw [← Hv3.out]; exact balloc (Below.refl _ _) _
  have X1_3b := Lib.hid (X1_3.out.below hbv)
  have X2_3b := Lib.hid (X2_3.out.below hbv)
  have H3b := Lib.hid (H3.out.below hbv)
  have F3b := Lib.hid (F3.out.more hbv)
  clear hbv
  rw [Hv3.out, Hr3.out]
  have y1 := X1_3b.out.cell 0 rfl
  have y2 := X2_3b.out.cell 0 rfl
  have y3 := X3_3b.out.cell 0 rfl
  have a1 : ¬ k - 2 < q := by have := FK.out; omega
  have a2 := BQ.out
  have a3 := B2.out
  go_wp2_with fail
  refine (Free_any H3b.out).mono ?_
  rw [s3f]
  rintro e u ⟨rfl, rfl⟩
  go_wp2
  go_ret
  exact ⟨rfl, B0.out.trans (F3b.out.below.mono B0.out.size)⟩
set_option maxRecDepth 100000 in
set_option maxHeartbeats 8000000 in
theorem wC001 (size room n k : Int) (w : World) (_ : (Lit.int .i64 size).wf = true) (_ : (Lit.int .i64 room).wf = true) (hm : Mx w) (hs : 0 ≤ size.tmod 6145) (hn : size.tmod 6145 = n) (hr : 0 ≤ room.tmod 31) (hk : room.tmod 31 = k) (b1 : 0 ≤ n ∧ n ≤ 6144) (b2 : 2 ≤ k ∧ k ≤ 30) (q : Int) (bq : 0 ≤ q ∧ q ≤ 12) (hq : n.tdiv 512 = q) (hx : 0 < n.tmod 512) (hd : needI n = q + 1) (hf : q + 1 ≤ k - 2) (sz : Nat) (hz : n = (sz : Int)) :
    Calls Tryz.prog 5 #[.int .i64 size, .int .i64 room] w fun e w' => e = .returned (.bool true) ∧ Below w.heap.size w w' := by
  have HM := Lib.hid hm
  have HN := Lib.hid hn
  have HK := Lib.hid hk
  have T1 := Lib.hid (tb size 6145 (by omega))
  have T2 := Lib.hid (tb room 31 (by omega))
  have HS := Lib.hid hs
  have HR := Lib.hid hr
  have B1 := Lib.hid b1
  have K2 : Hid (¬ k < 2) := Lib.hid (by omega)
  have B2 : Hid (2 ≤ k ∧ k ≤ 30) := Lib.hid b2
  have HZ := Lib.hid hz
  have HQ := Lib.hid hq
  have HD := Lib.hid hd
  have HSZ : Hid (sz ≤ 6144) := Lib.hid (by omega)
  have BQ := Lib.hid bq
  obtain ⟨r, Hr⟩ : ∃ r, Hid (n.tmod 512 = r) := ⟨_, Lib.hid rfl⟩
  have T3 := Lib.hid (tb n 512 (by omega))
  rw [Hr.out] at T3 hx
  have HX := Lib.hid hx
  have FK : Hid (¬ k - 2 < q + 1) := Lib.hid (by omega)
  clear hz hq hd bq hx hf
  clear hm hn hk hs hr b1 b2
  go_enter Tryz.func5, Tryz.ntmps5
  go_wp2_with fail
  refine (awk16_any w HM.out).mono ?_
  rintro e w1 ⟨rfl, hb0⟩
  have B0 := Lib.hid hb0
  have HM1 := Lib.hid (HM.out.below hb0)
  clear hb0
  have a1 := HS.out
  have a2 := T1.out
  go_upto_region 5 with (fail)
  clear a1 a2
  have a1 := HR.out
  have a2 := T2.out
  go_wp2_with fail
  clear a1 a2
  rw [HN.out, HK.out]
  refine (TNew_any k w1 HM1.out).mono ?_
  rw [clk k (by have := B2.out; omega)]
  rintro e u0 ⟨b, rfl, hbw, h0, hb⟩
  have H0 : Hid (IsT u0 b none none 0 (newTr k)) := Lib.hid h0
  have F0 : Hid (Fresh w1 u0 b none none) := Lib.hid ⟨hb, fun g hg => by
    rcases hg with e | e | e
    · omega
    · cases e
    · cases e⟩
  clear h0 hb hbw
  have hd := do_1 H0.out (c0 k (by have := B2.out; omega)) (by omega) (by omega) (HM1.out.below F0.out.below) 0 0 [] [] [] fl ⟨by decide, by decide⟩ (by decide)
  rw [pf1, s0e, if_neg (by have := K2.out; omega : ¬ k < 2), if_pos rfl] at hd
  have HD1 := Lib.hid hd
  clear hd
  go_wp2_with fail
  rw [show (⟨#[47, 102, 105, 108, 101]⟩ : ByteArray) = str [47, 102, 105, 108, 101] from rfl]
  refine HD1.out.mono ?_
  rintro e u1 ⟨rfl, mt1, ml1, h, t⟩
  have H1 : Hid (IsT u1 b mt1 ml1 2 (S1 k)) := Lib.hid h
  have F1 := Lib.hid (F0.out.next t)
  clear h t HD1
  go_upto_region 12 with (fail)
  obtain ⟨v1, Hv1⟩ : ∃ u, Hid (u1.alloc (.cells #[.int .i64 0, .string (str []), .slice none 0 0, .int .i64 0, .int .i64 0, .int .i64 0, .int .i64 0] 29) = u) := ⟨_, Lib.hid rfl⟩
  obtain ⟨r1, Hr1⟩ : ∃ u, Hid (u1.heap.size = u) := ⟨_, Lib.hid rfl⟩
  have X1_1b : Hid (BoxC v1 r1 #[.int .i64 0, .string (str []), .slice none 0 0, .int .i64 0, .int .i64 0, .int .i64 0, .int .i64 0] 29) := Lib.hid (by rw [← Hv1.out, ← Hr1.out]; exact BoxC.new u1 _ _)
  have hbv : Below u1.heap.size u1 v1 := by rw [← Hv1.out]; exact balloc (Below.refl _ _) _
  have H1b := Lib.hid (H1.out.below hbv)
  have F1b := Lib.hid (F1.out.more hbv)
  clear hbv
  rw [Hv1.out, Hr1.out]
  have a1 : ¬ k < 2 := by have := K2.out; omega
  go_upto_region 14 with (fail)
  clear a1
  have hd := do_8 H1b.out (c1 k B2.out) (by omega) (by omega) (HM1.out.below F1b.out.below) 0 n [] [] [fl] ⟨by decide, by decide⟩ (by decide) (by decide) B1.out.1 B1.out.2 1 (s1w k) (1, 1, []) (s1t k) (by rw [s1l]; decide) sz HSZ.out HZ.out
  rw [pf2, s1e, ← HZ.out, HD.out, if_neg (by have := FK.out; omega : ¬ k - 2 < q + 1), if_pos rfl] at hd
  have HD2 := Lib.hid hd
  clear hd
  have a1 := BQ.out
  have a2 := HX.out
  have a3 := T3.out
  have qq := HQ.out
  have rr := Hr.out
  go_wp2_with fail
  clear a1 a2 a3 qq rr
  rw [show (⟨#[47, 102, 105, 108, 101]⟩ : ByteArray) = str [47, 102, 105, 108, 101] from rfl]
  refine HD2.out.mono ?_
  rintro e u2 ⟨rfl, mt2, ml2, h, t⟩
  have H2 : Hid (IsT u2 b mt2 ml2 4 (S2 k sz)) := Lib.hid h
  have F2 := Lib.hid (F1b.out.next t)
  have X1_2 := Lib.hid (X1_1b.out.kept t.mod (H1b.out.notOwn X1_1b.out (fun x h => by cases h)))
  clear h t HD2
  go_upto_region 18 with (fail)
  obtain ⟨v2, Hv2⟩ : ∃ u, Hid (u2.alloc (.cells #[.int .i64 0, .string (str []), .slice none 0 0, .int .i64 0, .int .i64 0, .int .i64 0, .int .i64 0] 29) = u) := ⟨_, Lib.hid rfl⟩
  obtain ⟨r2, Hr2⟩ : ∃ u, Hid (u2.heap.size = u) := ⟨_, Lib.hid rfl⟩
  have X2_2b : Hid (BoxC v2 r2 #[.int .i64 0, .string (str []), .slice none 0 0, .int .i64 0, .int .i64 0, .int .i64 0, .int .i64 0] 29) := Lib.hid (by rw [← Hv2.out, ← Hr2.out]; exact BoxC.new u2 _ _)
  have hbv : Below u2.heap.size u2 v2 := by rw [← Hv2.out]; exact balloc (Below.refl _ _) _
  have X1_2b := Lib.hid (X1_2.out.below hbv)
  have H2b := Lib.hid (H2.out.below hbv)
  have F2b := Lib.hid (F2.out.more hbv)
  clear hbv
  rw [Hv2.out, Hr2.out]
  have a1 : ¬ k - 2 < q + 1 := by have := FK.out; omega
  have a2 := BQ.out
  have a3 := B2.out
  go_wp2_with fail
  clear a1 a2 a3
  refine (Free_any H2b.out).mono ?_
  rw [s2f, ← HZ.out, HD.out]
  rintro e u ⟨rfl, rfl⟩
  have hd := do_4 H2b.out (c2 k sz B2.out HSZ.out) (by omega) (by omega) (HM1.out.below F2b.out.below) 0 0 [] [] [] fl ⟨by decide, by decide⟩ (by decide) 1 (s2w k sz) (1, 1, sized [] sz) (s2t k sz) (by rw [s2l]; decide)
  rw [pf1, s2e, if_pos rfl] at hd
  have HD3 := Lib.hid hd
  clear hd
  go_wp2_with fail
  rw [show (⟨#[47, 102, 105, 108, 101]⟩ : ByteArray) = str [47, 102, 105, 108, 101] from rfl]
  refine HD3.out.mono ?_
  rintro e u3 ⟨rfl, mt3, ml3, h, t⟩
  have H3 : Hid (IsT u3 b mt3 ml3 6 (S3 k sz)) := Lib.hid h
  have F3 := Lib.hid (F2b.out.next t)
  have X1_3 := Lib.hid (X1_2b.out.kept t.mod (H2b.out.notOwn X1_2b.out (fun x h => by cases h)))
  have X2_3 := Lib.hid (X2_2b.out.kept t.mod (H2b.out.notOwn X2_2b.out (fun x h => by cases h)))
  clear h t HD3
  go_upto_region 22 with (fail)
  obtain ⟨v3, Hv3⟩ : ∃ u, Hid (u3.alloc (.cells #[.int .i64 0, .string (str []), .slice none 0 0, .int .i64 0, .int .i64 0, .int .i64 0, .int .i64 0] 29) = u) := ⟨_, Lib.hid rfl⟩
  obtain ⟨r3, Hr3⟩ : ∃ u, Hid (u3.heap.size = u) := ⟨_, Lib.hid rfl⟩
  have X3_3b : Hid (BoxC v3 r3 #[.int .i64 0, .string (str []), .slice none 0 0, .int .i64 0, .int .i64 0, .int .i64 0, .int .i64 0] 29) := Lib.hid (by rw [← Hv3.out, ← Hr3.out]; exact BoxC.new u3 _ _)
  have hbv : Below u3.heap.size u3 v3 := by rw [← Hv3.out]; exact balloc (Below.refl _ _) _
  have X1_3b := Lib.hid (X1_3.out.below hbv)
  have X2_3b := Lib.hid (X2_3.out.below hbv)
  have H3b := Lib.hid (H3.out.below hbv)
  have F3b := Lib.hid (F3.out.more hbv)
  clear hbv
  rw [Hv3.out, Hr3.out]
  have y1 := X1_3b.out.cell 0 rfl
  have y2 := X2_3b.out.cell 0 rfl
  have y3 := X3_3b.out.cell 0 rfl
  have a1 : ¬ k - 2 < q + 1 := by have := FK.out; omega
  have a2 := BQ.out
  have a3 := B2.out
  go_wp2_with fail
  refine (Free_any H3b.out).mono ?_
  rw [s3f]
  rintro e u ⟨rfl, rfl⟩
  go_wp2
  go_ret
  exact ⟨rfl, B0.out.trans (F3b.out.below.mono B0.out.size)⟩
set_option maxRecDepth 100000 in
set_option maxHeartbeats 8000000 in
theorem wC000 (size room n k : Int) (w : World) (_ : (Lit.int .i64 size).wf = true) (_ : (Lit.int .i64 room).wf = true) (hm : Mx w) (hs : 0 ≤ size.tmod 6145) (hn : size.tmod 6145 = n) (hr : 0 ≤ room.tmod 31) (hk : room.tmod 31 = k) (b1 : 0 ≤ n ∧ n ≤ 6144) (b2 : 2 ≤ k ∧ k ≤ 30) (q : Int) (bq : 0 ≤ q ∧ q ≤ 12) (hq : n.tdiv 512 = q) (hx : ¬ 0 < n.tmod 512) (hd : needI n = q) (hf : q ≤ k - 2) (sz : Nat) (hz : n = (sz : Int)) :
    Calls Tryz.prog 5 #[.int .i64 size, .int .i64 room] w fun e w' => e = .returned (.bool true) ∧ Below w.heap.size w w' := by
  have HM := Lib.hid hm
  have HN := Lib.hid hn
  have HK := Lib.hid hk
  have T1 := Lib.hid (tb size 6145 (by omega))
  have T2 := Lib.hid (tb room 31 (by omega))
  have HS := Lib.hid hs
  have HR := Lib.hid hr
  have B1 := Lib.hid b1
  have K2 : Hid (¬ k < 2) := Lib.hid (by omega)
  have B2 : Hid (2 ≤ k ∧ k ≤ 30) := Lib.hid b2
  have HZ := Lib.hid hz
  have HQ := Lib.hid hq
  have HD := Lib.hid hd
  have HSZ : Hid (sz ≤ 6144) := Lib.hid (by omega)
  have BQ := Lib.hid bq
  obtain ⟨r, Hr⟩ : ∃ r, Hid (n.tmod 512 = r) := ⟨_, Lib.hid rfl⟩
  have T3 := Lib.hid (tb n 512 (by omega))
  rw [Hr.out] at T3 hx
  have HX := Lib.hid hx
  have FK : Hid (¬ k - 2 < q) := Lib.hid (by omega)
  clear hz hq hd bq hx hf
  clear hm hn hk hs hr b1 b2
  go_enter Tryz.func5, Tryz.ntmps5
  go_wp2_with fail
  refine (awk16_any w HM.out).mono ?_
  rintro e w1 ⟨rfl, hb0⟩
  have B0 := Lib.hid hb0
  have HM1 := Lib.hid (HM.out.below hb0)
  clear hb0
  have a1 := HS.out
  have a2 := T1.out
  go_upto_region 5 with (fail)
  clear a1 a2
  have a1 := HR.out
  have a2 := T2.out
  go_wp2_with fail
  clear a1 a2
  rw [HN.out, HK.out]
  refine (TNew_any k w1 HM1.out).mono ?_
  rw [clk k (by have := B2.out; omega)]
  rintro e u0 ⟨b, rfl, hbw, h0, hb⟩
  have H0 : Hid (IsT u0 b none none 0 (newTr k)) := Lib.hid h0
  have F0 : Hid (Fresh w1 u0 b none none) := Lib.hid ⟨hb, fun g hg => by
    rcases hg with e | e | e
    · omega
    · cases e
    · cases e⟩
  clear h0 hb hbw
  have hd := do_1 H0.out (c0 k (by have := B2.out; omega)) (by omega) (by omega) (HM1.out.below F0.out.below) 0 0 [] [] [] fl ⟨by decide, by decide⟩ (by decide)
  rw [pf1, s0e, if_neg (by have := K2.out; omega : ¬ k < 2), if_pos rfl] at hd
  have HD1 := Lib.hid hd
  clear hd
  go_wp2_with fail
  rw [show (⟨#[47, 102, 105, 108, 101]⟩ : ByteArray) = str [47, 102, 105, 108, 101] from rfl]
  refine HD1.out.mono ?_
  rintro e u1 ⟨rfl, mt1, ml1, h, t⟩
  have H1 : Hid (IsT u1 b mt1 ml1 2 (S1 k)) := Lib.hid h
  have F1 := Lib.hid (F0.out.next t)
  clear h t HD1
  go_upto_region 12 with (fail)
  obtain ⟨v1, Hv1⟩ : ∃ u, Hid (u1.alloc (.cells #[.int .i64 0, .string (str []), .slice none 0 0, .int .i64 0, .int .i64 0, .int .i64 0, .int .i64 0] 29) = u) := ⟨_, Lib.hid rfl⟩
  obtain ⟨r1, Hr1⟩ : ∃ u, Hid (u1.heap.size = u) := ⟨_, Lib.hid rfl⟩
  have X1_1b : Hid (BoxC v1 r1 #[.int .i64 0, .string (str []), .slice none 0 0, .int .i64 0, .int .i64 0, .int .i64 0, .int .i64 0] 29) := Lib.hid (by rw [← Hv1.out, ← Hr1.out]; exact BoxC.new u1 _ _)
  have hbv : Below u1.heap.size u1 v1 := by rw [← Hv1.out]; exact balloc (Below.refl _ _) _
  have H1b := Lib.hid (H1.out.below hbv)
  have F1b := Lib.hid (F1.out.more hbv)
  clear hbv
  rw [Hv1.out, Hr1.out]
  have a1 : ¬ k < 2 := by have := K2.out; omega
  go_upto_region 14 with (fail)
  clear a1
  have hd := do_8 H1b.out (c1 k B2.out) (by omega) (by omega) (HM1.out.below F1b.out.below) 0 n [] [] [fl] ⟨by decide, by decide⟩ (by decide) (by decide) B1.out.1 B1.out.2 1 (s1w k) (1, 1, []) (s1t k) (by rw [s1l]; decide) sz HSZ.out HZ.out
  rw [pf2, s1e, ← HZ.out, HD.out, if_neg (by have := FK.out; omega : ¬ k - 2 < q), if_pos rfl] at hd
  have HD2 := Lib.hid hd
  clear hd
  have a1 := BQ.out
  have a2 := HX.out
  have a3 := T3.out
  have qq := HQ.out
  have rr := Hr.out
  go_wp2_with fail
  clear a1 a2 a3 qq rr
  rw [show (⟨#[47, 102, 105, 108, 101]⟩ : ByteArray) = str [47, 102, 105, 108, 101] from rfl]
  refine HD2.out.mono ?_
  rintro e u2 ⟨rfl, mt2, ml2, h, t⟩
  have H2 : Hid (IsT u2 b mt2 ml2 4 (S2 k sz)) := Lib.hid h
  have F2 := Lib.hid (F1b.out.next t)
  have X1_2 := Lib.hid (X1_1b.out.kept t.mod (H1b.out.notOwn X1_1b.out (fun x h => by cases h)))
  clear h t HD2
  go_upto_region 18 with (fail)
  obtain ⟨v2, Hv2⟩ : ∃ u, Hid (u2.alloc (.cells #[.int .i64 0, .string (str []), .slice none 0 0, .int .i64 0, .int .i64 0, .int .i64 0, .int .i64 0] 29) = u) := ⟨_, Lib.hid rfl⟩
  obtain ⟨r2, Hr2⟩ : ∃ u, Hid (u2.heap.size = u) := ⟨_, Lib.hid rfl⟩
  have X2_2b : Hid (BoxC v2 r2 #[.int .i64 0, .string (str []), .slice none 0 0, .int .i64 0, .int .i64 0, .int .i64 0, .int .i64 0] 29) := Lib.hid (by rw [← Hv2.out, ← Hr2.out]; exact BoxC.new u2 _ _)
  have hbv : Below u2.heap.size u2 v2 := by rw [← Hv2.out]; exact balloc (Below.refl _ _) _
  have X1_2b := Lib.hid (X1_2.out.below hbv)
  have H2b := Lib.hid (H2.out.below hbv)
  have F2b := Lib.hid (F2.out.more hbv)
  clear hbv
  rw [Hv2.out, Hr2.out]
  have a1 : ¬ k - 2 < q := by have := FK.out; omega
  have a2 := BQ.out
  have a3 := B2.out
  go_wp2_with fail
  clear a1 a2 a3
  refine (Free_any H2b.out).mono ?_
  rw [s2f, ← HZ.out, HD.out]
  rintro e u ⟨rfl, rfl⟩
  have hd := do_4 H2b.out (c2 k sz B2.out HSZ.out) (by omega) (by omega) (HM1.out.below F2b.out.below) 0 0 [] [] [] fl ⟨by decide, by decide⟩ (by decide) 1 (s2w k sz) (1, 1, sized [] sz) (s2t k sz) (by rw [s2l]; decide)
  rw [pf1, s2e, if_pos rfl] at hd
  have HD3 := Lib.hid hd
  clear hd
  go_wp2_with fail
  rw [show (⟨#[47, 102, 105, 108, 101]⟩ : ByteArray) = str [47, 102, 105, 108, 101] from rfl]
  refine HD3.out.mono ?_
  rintro e u3 ⟨rfl, mt3, ml3, h, t⟩
  have H3 : Hid (IsT u3 b mt3 ml3 6 (S3 k sz)) := Lib.hid h
  have F3 := Lib.hid (F2b.out.next t)
  have X1_3 := Lib.hid (X1_2b.out.kept t.mod (H2b.out.notOwn X1_2b.out (fun x h => by cases h)))
  have X2_3 := Lib.hid (X2_2b.out.kept t.mod (H2b.out.notOwn X2_2b.out (fun x h => by cases h)))
  clear h t HD3
  go_upto_region 22 with (fail)
  obtain ⟨v3, Hv3⟩ : ∃ u, Hid (u3.alloc (.cells #[.int .i64 0, .string (str []), .slice none 0 0, .int .i64 0, .int .i64 0, .int .i64 0, .int .i64 0] 29) = u) := ⟨_, Lib.hid rfl⟩
  obtain ⟨r3, Hr3⟩ : ∃ u, Hid (u3.heap.size = u) := ⟨_, Lib.hid rfl⟩
  have X3_3b : Hid (BoxC v3 r3 #[.int .i64 0, .string (str []), .slice none 0 0, .int .i64 0, .int .i64 0, .int .i64 0, .int .i64 0] 29) := Lib.hid (by rw [← Hv3.out, ← Hr3.out]; exact BoxC.new u3 _ _)
  have hbv : Below u3.heap.size u3 v3 := by rw [← Hv3.out]; exact balloc (Below.refl _ _) _
  have X1_3b := Lib.hid (X1_3.out.below hbv)
  have X2_3b := Lib.hid (X2_3.out.below hbv)
  have H3b := Lib.hid (H3.out.below hbv)
  have F3b := Lib.hid (F3.out.more hbv)
  clear hbv
  rw [Hv3.out, Hr3.out]
  have y1 := X1_3b.out.cell 0 rfl
  have y2 := X2_3b.out.cell 0 rfl
  have y3 := X3_3b.out.cell 0 rfl
  have a1 : ¬ k - 2 < q := by have := FK.out; omega
  have a2 := BQ.out
  have a3 := B2.out
  go_wp2_with fail
  refine (Free_any H3b.out).mono ?_
  rw [s3f]
  rintro e u ⟨rfl, rfl⟩
  go_wp2
  go_ret
  exact ⟨rfl, B0.out.trans (F3b.out.below.mono B0.out.size)⟩
theorem walk (size room : Int) (w : World) (h0 : (Lit.int .i64 size).wf = true) (h1 : (Lit.int .i64 room).wf = true) (hm : Mx w) :
    Calls Tryz.prog 5 #[.int .i64 size, .int .i64 room] w fun e w' => e = .returned (.bool true) ∧ Below w.heap.size w w' := by
  have t1 := tb size 6145 (by omega)
  have t2 := tb room 31 (by omega)
  rcases (by omega : size.tmod 6145 < 0 ∨ 0 ≤ size.tmod 6145) with hs | hs
  · rcases (by omega : room.tmod 31 < 0 ∨ 0 ≤ room.tmod 31) with hr | hr
    · obtain ⟨n, hn⟩ : ∃ n, -size.tmod 6145 = n := ⟨_, rfl⟩
      obtain ⟨k, hk⟩ : ∃ k, -room.tmod 31 = k := ⟨_, rfl⟩
      rcases (by omega : k < 2 ∨ 2 ≤ k) with hk2 | hk2
      · exact wA11 size room n k w h0 h1 hm hs hn hr hk (by omega) (by omega)
      · obtain ⟨q, hq⟩ : ∃ q, n.tdiv 512 = q := ⟨_, rfl⟩
        obtain ⟨hx, bq⟩ := need_q n q (by omega) hq
        rcases hx with ⟨hx, hd⟩ | ⟨hx, hd⟩
        · rcases (by omega : q + 1 ≤ k - 2 ∨ q + 1 > k - 2) with hf | hf
          · exact wC111 size room n k w h0 h1 hm hs hn hr hk (by omega) (by omega) q bq hq hx hd hf n.toNat (by omega)
          · exact wB111 size room n k w h0 h1 hm hs hn hr hk (by omega) (by omega) q bq hq hx hd hf n.toNat (by omega)
        · rcases (by omega : q ≤ k - 2 ∨ q > k - 2) with hf | hf
          · exact wC110 size room n k w h0 h1 hm hs hn hr hk (by omega) (by omega) q bq hq hx hd hf n.toNat (by omega)
          · exact wB110 size room n k w h0 h1 hm hs hn hr hk (by omega) (by omega) q bq hq hx hd hf n.toNat (by omega)
    · obtain ⟨n, hn⟩ : ∃ n, -size.tmod 6145 = n := ⟨_, rfl⟩
      obtain ⟨k, hk⟩ : ∃ k, room.tmod 31 = k := ⟨_, rfl⟩
      rcases (by omega : k < 2 ∨ 2 ≤ k) with hk2 | hk2
      · exact wA10 size room n k w h0 h1 hm hs hn hr hk (by omega) (by omega)
      · obtain ⟨q, hq⟩ : ∃ q, n.tdiv 512 = q := ⟨_, rfl⟩
        obtain ⟨hx, bq⟩ := need_q n q (by omega) hq
        rcases hx with ⟨hx, hd⟩ | ⟨hx, hd⟩
        · rcases (by omega : q + 1 ≤ k - 2 ∨ q + 1 > k - 2) with hf | hf
          · exact wC101 size room n k w h0 h1 hm hs hn hr hk (by omega) (by omega) q bq hq hx hd hf n.toNat (by omega)
          · exact wB101 size room n k w h0 h1 hm hs hn hr hk (by omega) (by omega) q bq hq hx hd hf n.toNat (by omega)
        · rcases (by omega : q ≤ k - 2 ∨ q > k - 2) with hf | hf
          · exact wC100 size room n k w h0 h1 hm hs hn hr hk (by omega) (by omega) q bq hq hx hd hf n.toNat (by omega)
          · exact wB100 size room n k w h0 h1 hm hs hn hr hk (by omega) (by omega) q bq hq hx hd hf n.toNat (by omega)
  · rcases (by omega : room.tmod 31 < 0 ∨ 0 ≤ room.tmod 31) with hr | hr
    · obtain ⟨n, hn⟩ : ∃ n, size.tmod 6145 = n := ⟨_, rfl⟩
      obtain ⟨k, hk⟩ : ∃ k, -room.tmod 31 = k := ⟨_, rfl⟩
      rcases (by omega : k < 2 ∨ 2 ≤ k) with hk2 | hk2
      · exact wA01 size room n k w h0 h1 hm hs hn hr hk (by omega) (by omega)
      · obtain ⟨q, hq⟩ : ∃ q, n.tdiv 512 = q := ⟨_, rfl⟩
        obtain ⟨hx, bq⟩ := need_q n q (by omega) hq
        rcases hx with ⟨hx, hd⟩ | ⟨hx, hd⟩
        · rcases (by omega : q + 1 ≤ k - 2 ∨ q + 1 > k - 2) with hf | hf
          · exact wC011 size room n k w h0 h1 hm hs hn hr hk (by omega) (by omega) q bq hq hx hd hf n.toNat (by omega)
          · exact wB011 size room n k w h0 h1 hm hs hn hr hk (by omega) (by omega) q bq hq hx hd hf n.toNat (by omega)
        · rcases (by omega : q ≤ k - 2 ∨ q > k - 2) with hf | hf
          · exact wC010 size room n k w h0 h1 hm hs hn hr hk (by omega) (by omega) q bq hq hx hd hf n.toNat (by omega)
          · exact wB010 size room n k w h0 h1 hm hs hn hr hk (by omega) (by omega) q bq hq hx hd hf n.toNat (by omega)
    · obtain ⟨n, hn⟩ : ∃ n, size.tmod 6145 = n := ⟨_, rfl⟩
      obtain ⟨k, hk⟩ : ∃ k, room.tmod 31 = k := ⟨_, rfl⟩
      rcases (by omega : k < 2 ∨ 2 ≤ k) with hk2 | hk2
      · exact wA00 size room n k w h0 h1 hm hs hn hr hk (by omega) (by omega)
      · obtain ⟨q, hq⟩ : ∃ q, n.tdiv 512 = q := ⟨_, rfl⟩
        obtain ⟨hx, bq⟩ := need_q n q (by omega) hq
        rcases hx with ⟨hx, hd⟩ | ⟨hx, hd⟩
        · rcases (by omega : q + 1 ≤ k - 2 ∨ q + 1 > k - 2) with hf | hf
          · exact wC001 size room n k w h0 h1 hm hs hn hr hk (by omega) (by omega) q bq hq hx hd hf n.toNat (by omega)
          · exact wB001 size room n k w h0 h1 hm hs hn hr hk (by omega) (by omega) q bq hq hx hd hf n.toNat (by omega)
        · rcases (by omega : q ≤ k - 2 ∨ q > k - 2) with hf | hf
          · exact wC000 size room n k w h0 h1 hm hs hn hr hk (by omega) (by omega) q bq hq hx hd hf n.toNat (by omega)
          · exact wB000 size room n k w h0 h1 hm hs hn hr hk (by omega) (by omega) q bq hq hx hd hf n.toNat (by omega)
set_option maxRecDepth 100000 in
theorem lifted (os : Os) (started : os.Started) (H : Type) (enc : TypeId × Value → H) :
    ReturnsInHanded {} Tryz.checked os 5 .any (fun w args => (Rows.treeSpaceSpec.pre enc Tryz.prog Tryz.f5 [] false w args ∧ laidMetH Tryz.prog laidT w) ∧ sizedMet enc Tryz.prog Tryz.f5 (OpenSpec.ofChange Rows.treeSpaceSpec) false w args)
      (Rows.treeSpaceSpec.post enc Tryz.prog Tryz.f5 false true false false) := by
  refine lift15 (C := Tryz.checked) (X := fun w _ => laidMetH Tryz.prog laidT w) (fun _ _ _ hh h => h.of_heap hh) own started (by kernel_rfl) Tryz.func5
    (ChangeSpec.witness_shaped (enc := enc) (C := Tryz.checked) (os := os) (X := fun w _ => laidMetH Tryz.prog laidT w) false (World.laidAll Tryz.prog os laidT) #[.int .i64 0, .int .i64 0] 8 (World.laidAll_os _ _ _) (World.shaped_of_ZipB (by kernel_rfl) (by kernel_rfl)) (by kernel_rfl) (by kernel_rfl) (by kernel_rfl) (door_met os _)) ?_
  intro W base args ds gs before hval0 hW _ _ _ hsh _
  have hval : ∀ (j : Nat) t v, Tryz.f5.params[j]? = some t → args[j]? = some v → Value.okWide Tryz.prog W .any base t v := hval0
  have hW' := hW
  obtain ⟨p, q, hA0, hV, rfl, hfz, hnd⟩ := hW
  have hA : DataW.TrodAll enc Tryz.prog W 0 (fun _ => true) true Tryz.f5.params.toList args.toList ds p := hA0
  rw [Tryz.params5] at hA hval
  obtain ⟨v0, vs0, d0, ds0, p0, q0, hargs, rfl, rfl, h0, r0⟩ := trodAll_cons hA
  obtain ⟨v1, vs1, d1, ds1, p1, q1, rfl, rfl, rfl, h1, r1⟩ := trodAll_cons r0
  obtain ⟨rfl, rfl, rfl⟩ := trodAll_nil r1
  obtain rfl : args = #[v0, v1] := by cases args; simp_all
  obtain ⟨a0, rfl, rfl, rfl, w0⟩ := open_int Tryz.underlying3 (hval 0 3 v0 rfl rfl) h0
  obtain ⟨a1, rfl, rfl, rfl, w1⟩ := open_int Tryz.underlying3 (hval 1 3 v1 rfl rfl) h1
  clear hA0 hval0
  refine (walk a0 a1 W w0 w1 (mx_of_shape hsh)).mono fun e W' ⟨he, bel⟩ => ?_
  subst he
  exact ⟨_, rfl, law_post laidOut (by rw [Tryz.params5]; decide +kernel) rfl Tryz.underlying4 rfl hW' (fun _ => rfl) bel⟩
theorem over : Rows.treeSpaceRow.holds Tryz.pinned (OpenSpec.ofChange Rows.treeSpaceSpec) :=
  OpenClaim.holds_of_wide 5 Tryz.f5 rfl rfl rfl rfl rfl rfl rfl ⟨rfl, rfl, rfl, rfl, rfl⟩ rfl rfl rfl rfl rfl (by kernel_rfl) Tryz.func5 (by kernel_rfl)
    (of_decide_eq_true (by kernel_rfl)) (by unfold Func.isWrapper; first | (rw [if_pos (by decide +kernel)]; kernel_rfl) | (rw [if_neg (by decide +kernel)]; exact ⟨rfl, rfl⟩))
    (fun os started H enc _ => lifted os started H enc)
theorem proved : Rows.TreeSpaceCardSaid :=
  Claim7.holds_tied_plain_at .later [] [.data, .pinned] true Rows.treeSpaceCard.stood.harness true over (fun _ h => by cases h) (by kernel_rfl) (fun _ h => by cases h) treeSpace_row_tie rfl ⟨rfl, rfl⟩ (by kernel_rfl) rfl
    (fun f fn hf hfn => by
      obtain rfl : f = 5 := Option.some.inj ((show Tryz.prog.funcNamed "lockgate/lockgatelaw16.TreeSpace" = some 5 by kernel_rfl).symm.trans hf) |>.symm
      obtain rfl : fn = Tryz.f5 := (Option.some.inj (Tryz.func5.symm.trans hfn)).symm
      exact ⟨by kernel_rfl, fun j t ht => by
        rw [Tryz.params5] at ht
        have hm : t ∈ [3, 3] := by simpa using Array.mem_of_getElem? ht
        have hall : ([3, 3].all fun u => !Tryz.prog.wantsStandIn u) = true := by kernel_rfl
        exact (show Tryz.prog.wantsStandIn t = false by simpa using List.all_eq_true.1 hall t hm)⟩)
    (by kernel_rfl)
end Go.Proofs.YtiomhdanmcnaeaaGreatDoor.treeSpace
