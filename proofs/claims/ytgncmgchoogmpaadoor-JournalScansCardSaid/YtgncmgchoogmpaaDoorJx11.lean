/- The chapter's examples of layer 11, at this translation. -/
import Derived.Test.YtgncmgchoogmpaaDoorJw11
import Derived.Test.YtgncmgchoogmpaaDoorTied11
namespace Go.Proofs.YtgncmgchoogmpaaDoor
open Go.RowKit

theorem chEq (x : Int) (l : List UInt8) (w : World) : (binOp .eql 32 (.agg #[.int .i64 x, .string (str l)]) (.agg #[.int .i64 x, .string (str l)])).run Tryd.prog w = .ok (.bool true) w := by
  have hu : Tryd.prog.underlying 32 = some (.struct (Tryd.prog.fieldsOf 32)) := by kernel_rfl
  have hp : Tryd.prog.stoodInHeld 32 = false := by kernel_rfl
  rw [run_eql_struct, run_equalIn_agg _ _ _ _ _ hu hp]
  simp [Program.fieldsOf, Tryd.underlying32, Tryd.underlying3, Tryd.underlying9, go_sem, part]
/-- A region of four sectors. -/
theorem strs4 (w : World) (a b c d : List UInt8) (t : TypeId) (ha : a.length ≤ 600) (hb : b.length ≤ 600) (hc : c.length ≤ 600) (hd : d.length ≤ 600) : IsStrs (w.alloc (.cells #[.string (str a), .string (str b), .string (str c), .string (str d)] t)) (some ⟨w.heap.size, 0, none⟩) 4 [a, b, c, d] := by
  refine ⟨rfl, by decide, fun s hs => ?_, fun _ => ⟨_, 0, rfl, ?_⟩⟩
  · have h : s.length ≤ 600 := by
      simp only [List.mem_cons, List.not_mem_nil, or_false] at hs
      rcases hs with rfl | rfl | rfl | rfl <;> assumption
    exact Nat.le_trans h (by decide)
  · intro i hi
    match i, hi with
    | 0, _ | 1, _ | 2, _ | 3, _ => simp [go_sem]
theorem RG.four (w : World) (a b c d : List UInt8) (t : TypeId) : RG (w.alloc (.cells #[.string (str a), .string (str b), .string (str c), .string (str d)] t)) 1 encS (.slice (some ⟨w.heap.size, 0, none⟩) 4 4) [a, b, c, d] :=
  ⟨rfl, .inr ⟨w.heap.size, 0, 4, rfl, by simp, by simp, by unfold maxLen; omega, fun j u hu => by
    match j, hu with
    | 0, hu | 1, hu | 2, hu | 3, hu => simp [flat, encS] at hu; subst hu; simp [go_sem]
    | j + 4, hu => simp [flat, encS] at hu, fun j hj => by simp at hj, fun j hj => by simp [go_sem]⟩⟩
set_option maxRecDepth 100000 in
set_option maxHeartbeats 4000000 in
theorem awake_any (w : World) (hT : Tab w) :
    Calls Tryd.prog 8 #[] w fun e w' => e = .returned (.bool true) ∧ Below w.heap.size w w' := by
  have HT := Lib.hid hT
  clear hT
  obtain ⟨X, HX⟩ : ∃ x, Hid (secS 120 = x) := ⟨_, Lib.hid rfl⟩
  have hXl : Hid (X.length = 512) := Lib.hid (by rw [← HX.out]; exact secS_length _)
  go_enter Tryd.func8, Tryd.ntmps8
  go_wp2_with fail
  refine (sector_any _ _).mono ?_
  rw [HX.out]
  rintro e w1 ⟨rfl, hb1⟩
  have B1 := Lib.hid hb1
  clear hb1
  obtain ⟨w2, HW2⟩ : ∃ x, Hid (w1.alloc (.cells #[.int .i64 9, .string (str X)] 32) = x) := ⟨_, Lib.hid rfl⟩
  obtain ⟨p1, Hp1⟩ : ∃ x, Hid (w1.heap.size = x) := ⟨_, Lib.hid rfl⟩
  have B2 : Hid (Below w.heap.size w w2) := Lib.hid (by rw [← HW2.out]; exact balloc B1.out _)
  have L2 : Hid (IsG w2 2 encC (some ⟨p1, 0, none⟩) 1 [(9, X)]) := Lib.hid (by rw [← HW2.out, ← Hp1.out]; exact ch_one w1 (9, X) _)
  have hE : Hid (recE 40 1 [(9, X)] = 0) := Lib.hid (recE_of (by omega) (by omega) (by simp) (by rw [rowB, rowFrom, hXl.out]; rfl) (by show ((1 : Nat) : Int) ≤ roomI 40; decide))
  go_wp2_with fail
  rw [HW2.out, Hp1.out]
  refine (jRecord_yes 40 1 _ 1 1 [(9, X)] w2 L2.out hE.out (HT.out.below B2.out) (by omega)).mono ?_
  rw [show (1 : Int).toNat = 1 from rfl, show (40 : Int) - 1 = 39 from rfl]
  obtain ⟨F, HF⟩ : ∃ x, Hid (firstS 1 [(9, X)] = x) := ⟨_, Lib.hid rfl⟩
  obtain ⟨M, HM⟩ : ∃ x, Hid (markS 1 [(9, X)] = x) := ⟨_, Lib.hid rfl⟩
  rw [show textsS 1 [(9, X)] = [firstS 1 [(9, X)], X] from rfl, HF.out, HM.out]
  rintro e w3 ⟨A3, c3, rfl, r3, _, hb3⟩
  have L3 := Lib.hid (L2.out.below hb3)
  have B3 := Lib.hid (bnext B2.out hb3)
  have G3 := Lib.hid (r3.is encC_ok).1
  clear r3 hb3 L2 hE
  obtain ⟨w4, HW4⟩ : ∃ x, Hid (w3.alloc (.cells #[.int .i64 39, .string (str M)] 32) = x) := ⟨_, Lib.hid rfl⟩
  obtain ⟨p4, Hp4⟩ : ∃ x, Hid (w3.heap.size = x) := ⟨_, Lib.hid rfl⟩
  have B34 : Hid (Below w3.heap.size w3 w4) := Lib.hid (by rw [← HW4.out]; exact balloc (Below.refl _ _) _)
  have K4 : Hid (ChAt w4 p4 (39, M)) := Lib.hid (by rw [← HW4.out, ← Hp4.out]; exact ChAt.new w3 (39, M) _)
  have B4 := Lib.hid (bnext B3.out B34.out)
  have L4 := Lib.hid (L3.out.below B34.out)
  have G4 := Lib.hid (G3.out.below B34.out)
  obtain ⟨g, off, e3, hg, hc⟩ := G4.out.cells (by omega)
  subst e3
  go_wp2_with fail
  rw [HW4.out, Hp4.out]
  have q1 : ∀ y : In (Abv w4), y.u.cell? ⟨g, off + 1, none⟩ = some (.string (str F)) := fun y => (y.is.cell (p := ⟨g, off + 1, none⟩) hg).trans (hc 0 (1, F) 1 _ rfl rfl)
  have q2 : ∀ y : In (Abv w4), y.u.cell? ⟨g, off + 2 + 1, none⟩ = some (.string (str X)) := fun y => (y.is.cell (p := ⟨g, off + 2 + 1, none⟩) hg).trans (hc 1 (2, X) 1 _ rfl rfl)
  have q3 : ∀ y : In (Abv w4), y.u.cell? ⟨p4, 1, none⟩ = some (.string (str M)) := fun y => (K4.out.below y.is).c1
  refine wp_region_mix (by kernel_rfl) (Cls (Abv w4)) [(1, 0), (2, 0), (3, 0), (4, 0), (5, 0), (6, 0), (7, 0), (8, 0), (9, 0), (10, 0), (0, 1), (11, 1), (12, 0)] (by kernel_rfl) (cls (Below.refl _ w4).drew) ?_
  repeat (refine mix0 rfl (fun K hK => ?_); go_simp; refine hK _ ?_; clear hK K)
  refine mix1 rfl (fun K hK => ?_)
  go_simp
  refine (jHead_any _ _).mono ?_
  rw [show clampD 0 = 0 from rfl]
  rintro e w5 ⟨rfl, hb5⟩
  have B45 : Hid (Below w4.heap.size w4 w5) := Lib.hid (bnext (Below.refl _ w4).drew hb5)
  clear hb5 q1 q2 q3
  refine ⟨_, rfl, hK _ _ (cls B45.out) ?_⟩
  clear hK K
  refine mix1 rfl (fun K hK => ?_)
  go_simp
  obtain ⟨H0, HH0⟩ : ∃ x, Hid (headS 0 = x) := ⟨_, Lib.hid rfl⟩
  rw [HH0.out]
  obtain ⟨w6, HW6⟩ : ∃ x, Hid (w5.alloc (.cells #[.string (str H0), .string (str F), .string (str X), .string (str M)] 9) = x) := ⟨_, Lib.hid rfl⟩
  obtain ⟨p6, Hp6⟩ : ∃ x, Hid (w5.heap.size = x) := ⟨_, Lib.hid rfl⟩
  have B46 : Hid (Below w4.heap.size w4 w6) := Lib.hid (by rw [← HW6.out]; exact balloc B45.out _)
  have R6 : Hid (RG w6 1 encS (.slice (some ⟨p6, 0, none⟩) 4 4) [H0, F, X, M]) := Lib.hid (by rw [← HW6.out, ← Hp6.out]; exact RG.four w5 H0 F X M _)
  have hp6 : Hid (w4.heap.size ≤ p6) := Lib.hid (by have := B45.out.size; have := Hp6.out; omega)
  have hw6 : Hid (p6 < w6.heap.size) := Lib.hid (R6.out.lt rfl)
  rw [HW6.out, Hp6.out]
  refine hK _ _ (cls B46.out) ?_
  clear hK K
  repeat (refine mix0 rfl (fun K hK => ?_); go_simp; refine hK _ ?_; clear hK K)
  refine mixEnd ?_
  have hS : Hid (∀ h : List UInt8, h.length ≤ 600 → ∀ s ∈ [h, F, X, M], s.length ≤ maxLen) := Lib.hid (fun h hh s hs => by
    have : s.length ≤ 600 := by
      simp only [List.mem_cons, List.not_mem_nil, or_false] at hs
      rcases hs with rfl | rfl | rfl | rfl
      · exact hh
      · rw [← HF.out, firstS_length _ _ (by simp)]; omega
      · rw [hXl.out]; omega
      · rw [← HM.out, markS_length]; omega
    exact Nat.le_trans this (by decide))
  have hrec : Hid (∀ d, d < 1 → IsRec [headS d, F, X, M] d 1 [(9, X)]) := Lib.hid (fun d hd => ⟨by simp, by simp, by simp, by omega, rfl, HF.out.symm, fun i c hc => by
    match i, hc with
    | 0, hc => simp at hc; subst hc; rfl
    | i + 1, hc => simp at hc, by rw [rowB, rowFrom, hXl.out]; rfl, by omega, by omega, hd, HM.out.symm⟩)
  have B6 := Lib.hid (bnext B4.out B46.out)
  go_wp2_with fail
  refine (jScan_any _ 4 4 [H0, F, X, M] w6 ((R6.out.is encS_ok).1.strs (hS.out H0 (by rw [← HH0.out, headS_length]; omega))) (by omega) (HT.out.below B6.out)).mono ?_
  rintro e w7 ⟨s7, B7, m7, d7, l7, ok7, rfl, hr7, g7, _, _, z7, hb7⟩
  obtain ⟨e1, e2, e3⟩ := hr7.eq (.inl ⟨rfl, 0, by rw [← HH0.out]; exact hrec.out 0 (by omega)⟩)
  subst e1 e2 e3
  have hm7 : m7 = 1 := g7.length.symm
  subst hm7
  have G7 := Lib.hid g7
  have B67 := Lib.hid hb7
  have R7 := Lib.hid (R6.out.below hb7)
  have Z7 := Lib.hid z7
  clear g7 hb7 z7 hr7
  go_wp2_with fail
  refine (jHead_any _ _).mono ?_
  rw [show clampD 1 = 1 from rfl]
  rintro e w8 ⟨rfl, hb8⟩
  have B68 := Lib.hid (bnext B67.out hb8)
  have R8 := Lib.hid (R7.out.below hb8)
  have G8 := Lib.hid (G7.out.below hb8)
  clear hb8 R7 G7
  obtain ⟨H1, HH1⟩ : ∃ x, Hid (headS 1 = x) := ⟨_, Lib.hid rfl⟩
  rw [HH1.out]
  obtain ⟨x0, x1⟩ := R8.out.cell encS_ok (i := 0) (a := H0) rfl (j := 0) (u := .string (str H0)) rfl
  simp only [Nat.zero_mul, Nat.add_zero] at x0 x1
  obtain ⟨w9, HW9⟩ : ∃ x, Hid (w8.setCell ⟨p6, 0, none⟩ (.string (str H1)) = x) := ⟨_, Lib.hid rfl⟩
  have M9 : Hid (Mod (· = p6) w8 w9) := Lib.hid (by rw [← HW9.out]; exact (Mod.refl _ w8).set1 _)
  have R9 : Hid (RG w9 1 encS (.slice (some ⟨p6, 0, none⟩) 4 4) [H1, F, X, M]) := Lib.hid (by
    have := RG.set encS_ok R8.out (i := 0) (by simp) H1
    rw [← HW9.out]
    exact this)
  have B49 : Hid (Below w4.heap.size w4 w9) := Lib.hid (bmod (bnext B46.out B68.out) M9.out hp6.out)
  have G9 : Hid (IsG w9 2 encC B7 1 [(9, X)]) := Lib.hid (G8.out.later M9.out (fun g' o' e' _ hh => by
    have h1 := Z7.out g' (by rw [e']; rfl)
    have h2 := hw6.out
    have h3 : g' = p6 := hh
    omega))
  go_wp2_with fail
  rw [HW9.out]
  clear x0 x1 R8 G8
  refine (jScan_any _ 4 4 [H1, F, X, M] w9 ((R9.out.is encS_ok).1.strs (hS.out H1 (by rw [← HH1.out, headS_length]; omega))) (by omega) (HT.out.below (bnext B4.out B49.out))).mono ?_
  rintro e wa ⟨sa, Ba, ma, da, la, oka, rfl, hra, _, _, _, _, hba⟩
  have hoka : oka = false := by
    rcases hra with ⟨_, d, hr⟩ | ⟨h, _⟩
    · have h1 : headS d = headS 1 := by rw [HH1.out]; exact hr.head.symm
      have h2 := headS_inj hr.dle (by omega) h1
      have h3 := hr.above
      have h4 : firstS sa la = firstS 1 [(9, X)] := by rw [HF.out]; exact hr.first.symm
      obtain ⟨h5, _⟩ := lineD_inj hr.seqm (by omega) hr.n60 (by simp) (fun c hc => ⟨(rowB_of hr.row c hc).1, (rowB_of hr.row c hc).2.1⟩) (by simp) h4
      omega
    · exact h
  subst hoka
  have B4a : Hid (Below w4.heap.size w4 wa) := Lib.hid (bnext B49.out hba)
  have Ga := Lib.hid (G9.out.below hba)
  clear hba hra
  obtain ⟨gc, oc, ec, hgc, hcc⟩ := Ga.out.cells (by omega)
  subst ec
  have t1 : ∀ y : In (Abv wa), y.u.cell? ⟨g, off, none⟩ = some (.int .i64 1) := fun y => ((bnext B4a.out y.is).cell (p := ⟨g, off, none⟩) hg).trans (by have := hc 0 (1, F) 0 _ rfl rfl; simpa using this)
  have t2 : ∀ y : In (Abv wa), y.u.cell? ⟨g, off + 2, none⟩ = some (.int .i64 2) := fun y => ((bnext B4a.out y.is).cell (p := ⟨g, off + 2, none⟩) hg).trans (hc 1 (2, X) 0 _ rfl rfl)
  have t3 : ∀ y : In (Abv wa), y.u.cell? ⟨p4, 0, none⟩ = some (.int .i64 39) := fun y => (K4.out.below (bnext B4a.out y.is)).c0
  have t4 : ∀ y : In (Abv wa), y.u.cell? ⟨gc, oc, none⟩ = some (.int .i64 9) := fun y => (y.is.cell (p := ⟨gc, oc, none⟩) hgc).trans (by have := hcc 0 (9, X) 0 _ rfl rfl; simpa using this)
  have t5 : ∀ y : In (Abv wa), y.u.cell? ⟨gc, oc + 1, none⟩ = some (.string (str X)) := fun y => (y.is.cell (p := ⟨gc, oc + 1, none⟩) hgc).trans (by have := hcc 0 (9, X) 1 _ rfl rfl; simpa using this)
  obtain ⟨g1, o1, el, hg1, hc1⟩ := L4.out.cells (by omega)
  have el1 : p1 = g1 := congrArg Addr.block (Option.some.inj el)
  have el2 : 0 = o1 := congrArg Addr.off (Option.some.inj el)
  subst el1 el2
  have t6 : ∀ y : In (Abv wa), y.u.cell? ⟨p1, 0, none⟩ = some (.int .i64 9) := fun y => ((bnext B4a.out y.is).cell (p := ⟨p1, 0, none⟩) hg1).trans (by have := hc1 0 (9, X) 0 _ rfl rfl; simpa using this)
  have t7 : ∀ y : In (Abv wa), y.u.cell? ⟨p1, 1, none⟩ = some (.string (str X)) := fun y => ((bnext B4a.out y.is).cell (p := ⟨p1, 1, none⟩) hg1).trans (by have := hc1 0 (9, X) 1 _ rfl rfl; simpa using this)
  have heq := chEq 9 X
  clear hcc hc1 el hc
  go_wp2_with fail
  refine wp_region_mix (by kernel_rfl) (Cls (Abv wa)) [(0, 0), (1, 0), (2, 0), (3, 0), (4, 0), (5, 0), (6, 0), (7, 0), (8, 0), (9, 0), (10, 0), (11, 0), (12, 0), (13, 0), (14, 0), (15, 0), (16, 0), (17, 0), (18, 0), (19, 0), (20, 0), (21, 0), (22, 0), (23, 0), (24, 0), (25, 0), (26, 0), (27, 0), (28, 0), (29, 0), (30, 0), (31, 0), (32, 0), (33, 0), (34, 0), (35, 0), (36, 0), (37, 0), (38, 0), (39, 0), (40, 0), (41, 0), (42, 0), (43, 0), (44, 0), (45, 0), (46, 0)] (by kernel_rfl) (cls (Below.refl _ wa).drew) ?_
  repeat (refine mix0 rfl (fun K hK => ?_); go_simp; refine hK _ ?_; clear hK K)
  refine mixEnd ?_
  go_wp2
  go_ret
  exact ⟨rfl, (bnext B4.out B4a.out).drew⟩
end Go.Proofs.YtgncmgchoogmpaaDoor
