/- What is told of a file, of what is free, of bytes read. -/
import Derived.Test.YtiomhdanmcnaeaaGreatDoorUb16
namespace Go.Proofs.YtiomhdanmcnaeaaGreatDoor
open Go.RowKit

section
variable {w : World} {b n : Nat} {mt ml : Option Nat} {T : Tr}
set_option maxRecDepth 100000 in
set_option maxHeartbeats 8000000 in
theorem statfs_any (h : IsT w b mt ml n T) (hne : ∀ p l, T.ls p = some l → l ≠ []) (cl : Cal) (A B : Option Addr) (k cc m d : Nat) (th : Int) :
    Calls Tryz.prog 38 #[.pointer (some ⟨b, 0, none⟩), askV cl (.slice A k cc) (.slice B m d) th] w fun e w' => e = .returned (repV ⟨0, [], .slice none 0 0, 0, 0, 0, T.free⟩) ∧ IsT w' b mt ml n T ∧ Below w.heap.size w w' := by
  have H := Lib.hid h
  have Hne := Lib.hid hne
  obtain ⟨F, HF⟩ : ∃ r, Hid (T.free = r) := ⟨_, Lib.hid rfl⟩
  rw [HF.out]
  clear h hne
  go_enter Tryz.func38, Tryz.ntmps38
  go_upto_region 1 with (fail)
  obtain ⟨w1, Hw1⟩ : ∃ u, Hid (w.alloc (.cells (askC cl (.slice A k cc) (.slice B m d) th) 49) = u) := ⟨_, Lib.hid rfl⟩
  obtain ⟨q, Hq⟩ : ∃ u, Hid (w.heap.size = u) := ⟨_, Lib.hid rfl⟩
  have HX1 : Hid (BoxC w1 q (askC cl (.slice A k cc) (.slice B m d) th) 49) := Lib.hid (by rw [← Hw1.out, ← Hq.out]; exact BoxC.new w _ _)
  have B1 : Hid (Below w.heap.size w w1) := Lib.hid (by rw [← Hw1.out]; exact balloc (Below.refl _ _) _)
  obtain ⟨w2, Hw2⟩ : ∃ u, Hid (w1.alloc (.cells rep0 29) = u) := ⟨_, Lib.hid rfl⟩
  obtain ⟨p, Hp⟩ : ∃ u, Hid (w.heap.size + 1 = u) := ⟨_, Lib.hid rfl⟩
  have hp1 : w1.heap.size = p := by rw [← Hw1.out, ← Hp.out]; simp
  have HR2 : Hid (BoxC w2 p rep0 29) := Lib.hid (by rw [← Hw2.out, ← hp1]; exact BoxC.new w1 _ _)
  have hb2 : Below w1.heap.size w1 w2 := by rw [← Hw2.out]; exact balloc (Below.refl _ _) _
  have B2 := Lib.hid (bnext B1.out hb2)
  have X2 := Lib.hid (HX1.out.below hb2)
  clear hb2
  have H2 := Lib.hid (H.out.below B2.out)
  rw [Hw1.out, Hw2.out, Hp.out, Hq.out]
  have k0 : w2.cell? ⟨b, 0, none⟩ = some (.int .i64 F) := by rw [← HF.out]; exact H2.out.c0
  have f0 := HR2.out.free 0
  have f1 := HR2.out.free 1
  have f2 := HR2.out.free 2
  have f3 := HR2.out.free 3
  have f4 := HR2.out.free 4
  have f5 := HR2.out.free 5
  have f6 := HR2.out.free 6
  have z0 := HR2.out.cell 0 rfl
  have z1 := HR2.out.cell 1 rfl
  have z2 := HR2.out.cell 2 rfl
  have z3 := HR2.out.cell 3 rfl
  have z4 := HR2.out.cell 4 rfl
  have z5 := HR2.out.cell 5 rfl
  have z6 := HR2.out.cell 6 rfl
  have RZ := Lib.hid (setR_box HR2.out (⟨0, [], .slice none 0 0, 0, 0, 0, F⟩ : Rep))
  have HZ := Lib.hid (H2.out.box Hne.out (setR_mod w2 p (⟨0, [], .slice none 0 0, 0, 0, 0, F⟩ : Rep)) HR2.out rep_no2 rep_nohe)
  have TZ := Lib.hid (bmod B2.out (setR_mod w2 p (⟨0, [], .slice none 0 0, 0, 0, 0, F⟩ : Rep)) (by have := Hp.out; omega))
  go_wp2
  obtain ⟨wz, Hwz⟩ : ∃ u, Hid (setR w2 p (⟨0, [], .slice none 0 0, 0, 0, 0, F⟩ : Rep) = u) := ⟨_, Lib.hid rfl⟩
  rw [Hwz.out] at RZ HZ TZ
  rw [show ((((((w2.setCell ⟨p, 0, none⟩ (.int .i64 0)).setCell ⟨p, 1, none⟩ (.string (str []))).setCell ⟨p, 2, none⟩ (.slice none 0 0)).setCell ⟨p, 3, none⟩ (.int .i64 0)).setCell ⟨p, 4, none⟩ (.int .i64 0)).setCell ⟨p, 5, none⟩ (.int .i64 0)).setCell ⟨p, 6, none⟩ (.int .i64 F) = wz from Hwz.out]
  have s0 := RZ.out.cell 0 rfl
  have s1 := RZ.out.cell 1 rfl
  have s2 := RZ.out.cell 2 rfl
  have s3 := RZ.out.cell 3 rfl
  have s4 := RZ.out.cell 4 rfl
  have s5 := RZ.out.cell 5 rfl
  have s6 := RZ.out.cell 6 rfl
  exact bodyPost_ret (v := repV (⟨0, [], .slice none 0 0, 0, 0, 0, F⟩ : Rep)) (by simp [results, Tryz.results38, go_sem, s0, s1, s2, s3, s4, s5, s6]) rfl ⟨rfl, HZ.out, TZ.out⟩
set_option maxRecDepth 100000 in
set_option maxHeartbeats 8000000 in
theorem sync_any (h : IsT w b mt ml n T) (hne : ∀ p l, T.ls p = some l → l ≠ []) (cl : Cal) (A B : Option Addr) (k cc m d : Nat) (th : Int) :
    Calls Tryz.prog 28 #[.pointer (some ⟨b, 0, none⟩), askV cl (.slice A k cc) (.slice B m d) th] w fun e w' => e = .returned (repV (repE 0)) ∧ IsT w' b mt ml n T ∧ Below w.heap.size w w' := by
  have H := Lib.hid h
  have Hne := Lib.hid hne
  clear h hne
  go_enter Tryz.func28, Tryz.ntmps28
  go_upto_region 1 with (fail)
  obtain ⟨w1, Hw1⟩ : ∃ u, Hid (w.alloc (.cells (askC cl (.slice A k cc) (.slice B m d) th) 49) = u) := ⟨_, Lib.hid rfl⟩
  obtain ⟨q, Hq⟩ : ∃ u, Hid (w.heap.size = u) := ⟨_, Lib.hid rfl⟩
  have HX1 : Hid (BoxC w1 q (askC cl (.slice A k cc) (.slice B m d) th) 49) := Lib.hid (by rw [← Hw1.out, ← Hq.out]; exact BoxC.new w _ _)
  have B1 : Hid (Below w.heap.size w w1) := Lib.hid (by rw [← Hw1.out]; exact balloc (Below.refl _ _) _)
  obtain ⟨w2, Hw2⟩ : ∃ u, Hid (w1.alloc (.cells rep0 29) = u) := ⟨_, Lib.hid rfl⟩
  obtain ⟨p, Hp⟩ : ∃ u, Hid (w.heap.size + 1 = u) := ⟨_, Lib.hid rfl⟩
  have hp1 : w1.heap.size = p := by rw [← Hw1.out, ← Hp.out]; simp
  have HR2 : Hid (BoxC w2 p rep0 29) := Lib.hid (by rw [← Hw2.out, ← hp1]; exact BoxC.new w1 _ _)
  have hb2 : Below w1.heap.size w1 w2 := by rw [← Hw2.out]; exact balloc (Below.refl _ _) _
  have B2 := Lib.hid (bnext B1.out hb2)
  have X2 := Lib.hid (HX1.out.below hb2)
  clear hb2
  have H2 := Lib.hid (H.out.below B2.out)
  rw [Hw1.out, Hw2.out, Hp.out, Hq.out]
  have f0 := HR2.out.free 0
  have f1 := HR2.out.free 1
  have f2 := HR2.out.free 2
  have f3 := HR2.out.free 3
  have f4 := HR2.out.free 4
  have f5 := HR2.out.free 5
  have f6 := HR2.out.free 6
  have z0 := HR2.out.cell 0 rfl
  have z1 := HR2.out.cell 1 rfl
  have z2 := HR2.out.cell 2 rfl
  have z3 := HR2.out.cell 3 rfl
  have z4 := HR2.out.cell 4 rfl
  have z5 := HR2.out.cell 5 rfl
  have z6 := HR2.out.cell 6 rfl
  have RZ := Lib.hid (setR_box HR2.out (repE 0))
  have HZ := Lib.hid (H2.out.box Hne.out (setR_mod w2 p (repE 0)) HR2.out rep_no2 rep_nohe)
  have TZ := Lib.hid (bmod B2.out (setR_mod w2 p (repE 0)) (by have := Hp.out; omega))
  go_wp2
  obtain ⟨wz, Hwz⟩ : ∃ u, Hid (setR w2 p (repE 0) = u) := ⟨_, Lib.hid rfl⟩
  rw [Hwz.out] at RZ HZ TZ
  rw [show ((((((w2.setCell ⟨p, 0, none⟩ (.int .i64 0)).setCell ⟨p, 1, none⟩ (.string (str []))).setCell ⟨p, 2, none⟩ (.slice none 0 0)).setCell ⟨p, 3, none⟩ (.int .i64 0)).setCell ⟨p, 4, none⟩ (.int .i64 0)).setCell ⟨p, 5, none⟩ (.int .i64 0)).setCell ⟨p, 6, none⟩ (.int .i64 0) = wz from Hwz.out]
  have s0 := RZ.out.cell 0 rfl
  have s1 := RZ.out.cell 1 rfl
  have s2 := RZ.out.cell 2 rfl
  have s3 := RZ.out.cell 3 rfl
  have s4 := RZ.out.cell 4 rfl
  have s5 := RZ.out.cell 5 rfl
  have s6 := RZ.out.cell 6 rfl
  exact bodyPost_ret (v := repV (repE 0)) (by simp [results, Tryz.results28, go_sem, s0, s1, s2, s3, s4, s5, s6]) rfl ⟨rfl, HZ.out, TZ.out⟩
set_option maxRecDepth 100000 in
set_option maxHeartbeats 8000000 in
theorem stat_file (h : IsT w b mt ml n T) (hne : ∀ p l, T.ls p = some l → l ≠ []) (cl : Cal) (A B : Option Addr) (k cc m d : Nat) (th : Int) (hwf : (Lit.int .i64 th).wf = true) (x : Thg) (hg : (T.th th).getD th0 = x) (hk : x.1 = 1) (_hxl : x.2.2.length ≤ 100000) :
    Calls Tryz.prog 37 #[.pointer (some ⟨b, 0, none⟩), askV cl (.slice A k cc) (.slice B m d) th] w fun e w' => e = .returned (repV ⟨0, [], .slice none 0 0, 1, x.2.1, (x.2.2.length : Int), 0⟩) ∧ IsT w' b mt ml n T ∧ Below w.heap.size w w' := by
  have H := Lib.hid h
  have Hne := Lib.hid hne
  have Hx := Lib.hid hg
  have Hk := Lib.hid hk
  clear h hne hg hk
  go_enter Tryz.func37, Tryz.ntmps37
  go_upto_region 1 with (fail)
  obtain ⟨w1, Hw1⟩ : ∃ u, Hid (w.alloc (.cells (askC cl (.slice A k cc) (.slice B m d) th) 49) = u) := ⟨_, Lib.hid rfl⟩
  obtain ⟨q, Hq⟩ : ∃ u, Hid (w.heap.size = u) := ⟨_, Lib.hid rfl⟩
  have HX1 : Hid (BoxC w1 q (askC cl (.slice A k cc) (.slice B m d) th) 49) := Lib.hid (by rw [← Hw1.out, ← Hq.out]; exact BoxC.new w _ _)
  have B1 : Hid (Below w.heap.size w w1) := Lib.hid (by rw [← Hw1.out]; exact balloc (Below.refl _ _) _)
  obtain ⟨w2, Hw2⟩ : ∃ u, Hid (w1.alloc (.cells rep0 29) = u) := ⟨_, Lib.hid rfl⟩
  obtain ⟨p, Hp⟩ : ∃ u, Hid (w.heap.size + 1 = u) := ⟨_, Lib.hid rfl⟩
  have hp1 : w1.heap.size = p := by rw [← Hw1.out, ← Hp.out]; simp
  have HR2 : Hid (BoxC w2 p rep0 29) := Lib.hid (by rw [← Hw2.out, ← hp1]; exact BoxC.new w1 _ _)
  have hb2 : Below w1.heap.size w1 w2 := by rw [← Hw2.out]; exact balloc (Below.refl _ _) _
  have B2 := Lib.hid (bnext B1.out hb2)
  have X2 := Lib.hid (HX1.out.below hb2)
  clear hb2
  have H2 := Lib.hid (H.out.below B2.out)
  rw [Hw1.out, Hw2.out, Hp.out, Hq.out]
  have x8 : ∀ y : In (Abv w2), y.u.cell? ⟨q, 8, none⟩ = some (.int .i64 th) := fun y => (X2.out.below y.is).cell 8 rfl
  have k2 : ∀ y : In (Abv w2), y.u.cell? ⟨b, 2, none⟩ = some (.map mt) := fun y => (H2.out.below y.is).c2
  have kl : ∀ y : In (Abv w2), (Instr.lookup 38 (.map mt) (.int .i64 th) false).run Tryz.prog y.u = .ok (.agg #[.int .i64 1, .int .i64 x.2.1, .string (str x.2.2)]) y.u := fun y => by
    have h := (H2.out.below y.is).lookT hwf
    rw [Hx.out] at h
    rw [thV, Hk.out] at h
    exact h
  refine wp_region_mix (by kernel_rfl) (Cls (Abv w2)) [(0, 0), (1, 0), (2, 0), (3, 0), (4, 0), (5, 0), (6, 0), (7, 1), (8, 2)] (by kernel_rfl) (cls (Below.refl _ _).drew) ?_
  repeat (refine mix0 rfl (fun K hK => ?_); go_simp; refine hK _ ?_; clear hK K)
  obtain ⟨wn, Hwn⟩ : ∃ u, Hid ((w2.alloc (.cells #[.int .i64 0, .int .i64 0, .string (str [])] 65)).drew = u) := ⟨_, Lib.hid rfl⟩
  obtain ⟨a, Ha⟩ : ∃ u, Hid (w2.heap.size = u) := ⟨_, Lib.hid rfl⟩
  have An : Hid (BoxC wn a #[.int .i64 0, .int .i64 0, .string (str [])] 65) := Lib.hid (by rw [← Hwn.out, ← Ha.out]; exact (BoxC.new w2 _ _).below (Below.refl _ _).drew)
  have Bn : Hid (Below w2.heap.size w2 wn) := Lib.hid (by rw [← Hwn.out]; exact (balloc (Below.refl _ _) _).drew)
  refine mix1 rfl (fun K hK => ?_)
  go_simp
  refine hK _ _ (cls (by rw [← Hwn.out] at Bn; exact Bn.out)) ?_
  clear hK K
  rw [Hwn.out, Ha.out]
  have f0 := An.out.free 0
  have f1 := An.out.free 1
  have f2 := An.out.free 2
  have z0 := An.out.cell 0 rfl
  have z1 := An.out.cell 1 rfl
  have z2 := An.out.cell 2 rfl
  refine mix2 rfl (fun K hK => ?_)
  go_simp
  refine hK _ _ ?_
  clear hK K f0 f1 f2 z0 z1 z2 x8 k2 kl
  refine mixEnd ?_
  obtain ⟨w3, Hto⟩ : ∃ u, Hid (((wn.setCell ⟨a, 0, none⟩ (.int .i64 1)).setCell ⟨a, 1, none⟩ (.int .i64 x.2.1)).setCell ⟨a, 2, none⟩ (.string (str x.2.2)) = u) := ⟨_, Lib.hid rfl⟩
  have A3 : Hid (BoxC w3 a #[.int .i64 1, .int .i64 x.2.1, .string (str x.2.2)] 65) := Lib.hid (by rw [← Hto.out]; exact ((An.out.put 0 (.int .i64 1)).put 1 (.int .i64 x.2.1)).put 2 (.string (str x.2.2)))
  have b3 : Below w2.heap.size w2 w3 := by rw [← Hto.out]; exact bmod Bn.out ((((Mod.refl _ wn).set1 _).set1 _).set1 _) (by have := Ha.out; omega)
  have B3 := Lib.hid (bnext B2.out b3)
  have R3 := Lib.hid (HR2.out.below b3)
  have X3 := Lib.hid (X2.out.below b3)
  have H3 := Lib.hid (H2.out.below b3)
  have hpa : p ≠ a := by have := HR2.out.lt; have := Ha.out; omega
  rw [Hto.out]
  clear b3 Hto An Bn Hwn
  have a0 := A3.out.cell 0 rfl
  have a1 := A3.out.cell 1 rfl
  have a2 := A3.out.cell 2 rfl
  have f0 := R3.out.free 0
  have f1 := R3.out.free 1
  have f2 := R3.out.free 2
  have f3 := R3.out.free 3
  have f4 := R3.out.free 4
  have f5 := R3.out.free 5
  have f6 := R3.out.free 6
  have z0 := R3.out.cell 0 rfl
  have z1 := R3.out.cell 1 rfl
  have z2 := R3.out.cell 2 rfl
  have z3 := R3.out.cell 3 rfl
  have z4 := R3.out.cell 4 rfl
  have z5 := R3.out.cell 5 rfl
  have z6 := R3.out.cell 6 rfl
  have RZ := Lib.hid (setR_box R3.out (⟨0, [], .slice none 0 0, 1, x.2.1, (x.2.2.length : Int), 0⟩ : Rep))
  have HZ := Lib.hid (H3.out.box Hne.out (setR_mod w3 p (⟨0, [], .slice none 0 0, 1, x.2.1, (x.2.2.length : Int), 0⟩ : Rep)) R3.out rep_no2 rep_nohe)
  have TZ := Lib.hid (bmod B3.out (setR_mod w3 p (⟨0, [], .slice none 0 0, 1, x.2.1, (x.2.2.length : Int), 0⟩ : Rep)) (by have := Hp.out; omega))
  go_wp2
  obtain ⟨wz, Hwz⟩ : ∃ u, Hid (setR w3 p (⟨0, [], .slice none 0 0, 1, x.2.1, (x.2.2.length : Int), 0⟩ : Rep) = u) := ⟨_, Lib.hid rfl⟩
  rw [Hwz.out] at RZ HZ TZ
  rw [show ((((((w3.setCell ⟨p, 0, none⟩ (.int .i64 0)).setCell ⟨p, 1, none⟩ (.string (str []))).setCell ⟨p, 2, none⟩ (.slice none 0 0)).setCell ⟨p, 3, none⟩ (.int .i64 1)).setCell ⟨p, 4, none⟩ (.int .i64 x.2.1)).setCell ⟨p, 5, none⟩ (.int .i64 (x.2.2.length : Int))).setCell ⟨p, 6, none⟩ (.int .i64 0) = wz from Hwz.out]
  have s0 := RZ.out.cell 0 rfl
  have s1 := RZ.out.cell 1 rfl
  have s2 := RZ.out.cell 2 rfl
  have s3 := RZ.out.cell 3 rfl
  have s4 := RZ.out.cell 4 rfl
  have s5 := RZ.out.cell 5 rfl
  have s6 := RZ.out.cell 6 rfl
  exact bodyPost_ret (v := repV (⟨0, [], .slice none 0 0, 1, x.2.1, (x.2.2.length : Int), 0⟩ : Rep)) (by simp [results, Tryz.results37, go_sem, s0, s1, s2, s3, s4, s5, s6]) rfl ⟨rfl, HZ.out, TZ.out⟩
/-- What a reading tells. -/
def readD (d : List UInt8) (at_ m : Nat) : List UInt8 := (d.drop at_).take m
set_option maxRecDepth 100000 in
set_option maxHeartbeats 8000000 in
theorem read_file (h : IsT w b mt ml n T) (hne : ∀ p l, T.ls p = some l → l ≠ []) (cl : Cal) (A B : Option Addr) (k cc m d : Nat) (th : Int) (hwf : (Lit.int .i64 th).wf = true) (x : Thg) (hg : (T.th th).getD th0 = x) (hk : T.kind th ≠ 2) (hxl : x.2.2.length ≤ 100000) (at_ mm : Nat) (hat : cl.off = (at_ : Int)) (hmm : cl.n = (mm : Int)) (hmb : mm ≤ 100000) :
    Calls Tryz.prog 33 #[.pointer (some ⟨b, 0, none⟩), askV cl (.slice A k cc) (.slice B m d) th] w fun e w' => e = .returned (repV ⟨0, readD x.2.2 at_ mm, .slice none 0 0, 0, 0, 0, 0⟩) ∧ IsT w' b mt ml n T ∧ Below w.heap.size w w' := by
  have H := Lib.hid h
  have Hne := Lib.hid hne
  have Hx := Lib.hid hg
  have Hk := Lib.hid hk
  have Hat := Lib.hid hat
  have Hmm := Lib.hid hmm
  obtain ⟨D, HD⟩ : ∃ r, Hid (readD x.2.2 at_ mm = r) := ⟨_, Lib.hid rfl⟩
  rw [HD.out]
  clear h hne hg hk hat hmm
  go_enter Tryz.func33, Tryz.ntmps33
  go_upto_region 1 with (fail)
  obtain ⟨w1, Hw1⟩ : ∃ u, Hid (w.alloc (.cells (askC cl (.slice A k cc) (.slice B m d) th) 49) = u) := ⟨_, Lib.hid rfl⟩
  obtain ⟨q, Hq⟩ : ∃ u, Hid (w.heap.size = u) := ⟨_, Lib.hid rfl⟩
  have HX1 : Hid (BoxC w1 q (askC cl (.slice A k cc) (.slice B m d) th) 49) := Lib.hid (by rw [← Hw1.out, ← Hq.out]; exact BoxC.new w _ _)
  have B1 : Hid (Below w.heap.size w w1) := Lib.hid (by rw [← Hw1.out]; exact balloc (Below.refl _ _) _)
  obtain ⟨w2, Hw2⟩ : ∃ u, Hid (w1.alloc (.cells rep0 29) = u) := ⟨_, Lib.hid rfl⟩
  obtain ⟨p, Hp⟩ : ∃ u, Hid (w.heap.size + 1 = u) := ⟨_, Lib.hid rfl⟩
  have hp1 : w1.heap.size = p := by rw [← Hw1.out, ← Hp.out]; simp
  have HR2 : Hid (BoxC w2 p rep0 29) := Lib.hid (by rw [← Hw2.out, ← hp1]; exact BoxC.new w1 _ _)
  have hb2 : Below w1.heap.size w1 w2 := by rw [← Hw2.out]; exact balloc (Below.refl _ _) _
  have B2 := Lib.hid (bnext B1.out hb2)
  have X2 := Lib.hid (HX1.out.below hb2)
  clear hb2
  have H2 := Lib.hid (H.out.below B2.out)
  rw [Hw1.out, Hw2.out, Hp.out, Hq.out]
  have x8 : ∀ y : In (Abv w2), y.u.cell? ⟨q, 8, none⟩ = some (.int .i64 th) := fun y => (X2.out.below y.is).cell 8 rfl
  have k2 : ∀ y : In (Abv w2), y.u.cell? ⟨b, 2, none⟩ = some (.map mt) := fun y => (H2.out.below y.is).c2
  have kl : ∀ y : In (Abv w2), (Instr.lookup 38 (.map mt) (.int .i64 th) false).run Tryz.prog y.u = .ok (.agg #[.int .i64 x.1, .int .i64 x.2.1, .string (str x.2.2)]) y.u := fun y => by
    have h := (H2.out.below y.is).lookT hwf
    rw [Hx.out] at h
    exact h
  refine wp_region_mix (by kernel_rfl) (Cls (Abv w2)) [(0, 0), (1, 0), (2, 0), (3, 0), (4, 0), (5, 0), (6, 0), (7, 1), (8, 2)] (by kernel_rfl) (cls (Below.refl _ _).drew) ?_
  repeat (refine mix0 rfl (fun K hK => ?_); go_simp; refine hK _ ?_; clear hK K)
  obtain ⟨wn, Hwn⟩ : ∃ u, Hid ((w2.alloc (.cells #[.int .i64 0, .int .i64 0, .string (str [])] 65)).drew = u) := ⟨_, Lib.hid rfl⟩
  obtain ⟨a, Ha⟩ : ∃ u, Hid (w2.heap.size = u) := ⟨_, Lib.hid rfl⟩
  have An : Hid (BoxC wn a #[.int .i64 0, .int .i64 0, .string (str [])] 65) := Lib.hid (by rw [← Hwn.out, ← Ha.out]; exact (BoxC.new w2 _ _).below (Below.refl _ _).drew)
  have Bn : Hid (Below w2.heap.size w2 wn) := Lib.hid (by rw [← Hwn.out]; exact (balloc (Below.refl _ _) _).drew)
  refine mix1 rfl (fun K hK => ?_)
  go_simp
  refine hK _ _ (cls (by rw [← Hwn.out] at Bn; exact Bn.out)) ?_
  clear hK K
  rw [Hwn.out, Ha.out]
  have f0 := An.out.free 0
  have f1 := An.out.free 1
  have f2 := An.out.free 2
  have z0 := An.out.cell 0 rfl
  have z1 := An.out.cell 1 rfl
  have z2 := An.out.cell 2 rfl
  refine mix2 rfl (fun K hK => ?_)
  go_simp
  refine hK _ _ ?_
  clear hK K f0 f1 f2 z0 z1 z2 x8 k2 kl
  refine mixEnd ?_
  obtain ⟨w3, Hto⟩ : ∃ u, Hid (((wn.setCell ⟨a, 0, none⟩ (.int .i64 x.1)).setCell ⟨a, 1, none⟩ (.int .i64 x.2.1)).setCell ⟨a, 2, none⟩ (.string (str x.2.2)) = u) := ⟨_, Lib.hid rfl⟩
  have A3 : Hid (BoxC w3 a #[.int .i64 x.1, .int .i64 x.2.1, .string (str x.2.2)] 65) := Lib.hid (by rw [← Hto.out]; exact ((An.out.put 0 (.int .i64 x.1)).put 1 (.int .i64 x.2.1)).put 2 (.string (str x.2.2)))
  have b3 : Below w2.heap.size w2 w3 := by rw [← Hto.out]; exact bmod Bn.out ((((Mod.refl _ wn).set1 _).set1 _).set1 _) (by have := Ha.out; omega)
  have B3 := Lib.hid (bnext B2.out b3)
  have R3 := Lib.hid (HR2.out.below b3)
  have X3 := Lib.hid (X2.out.below b3)
  have H3 := Lib.hid (H2.out.below b3)
  have hpa : p ≠ a := by have := HR2.out.lt; have := Ha.out; omega
  rw [Hto.out]
  clear b3 Hto An Bn Hwn
  have x8 := X3.out.cell 8 rfl
  go_wp2_with fail
  refine (kind_any H3.out th hwf).mono ?_
  obtain ⟨Kd, HK⟩ : ∃ r, Hid (T.kind th = r) := ⟨_, Lib.hid rfl⟩
  rw [HK.out]
  rintro e w4 ⟨rfl, rfl⟩
  have hq : (Kd == 2) = false := by have := Hk.out; rw [HK.out] at this; simpa using this
  have a2 := A3.out.cell 2 rfl
  have x3 : w3.cell? ⟨q, 3, none⟩ = some (.int .i64 (at_ : Int)) := by rw [← Hat.out]; exact X3.out.cell 3 rfl
  have x4 : w3.cell? ⟨q, 4, none⟩ = some (.int .i64 (mm : Int)) := by rw [← Hmm.out]; exact X3.out.cell 4 rfl
  obtain ⟨D1, HD1⟩ : ∃ r, Hid (x.2.2.drop at_ = r) := ⟨_, Lib.hid rfl⟩
  have hD1 : List.drop (min (at_ : Int) (x.2.2.length : Int)).toNat x.2.2 = D1 := by
    rw [← HD1.out]
    rcases Nat.le_total at_ x.2.2.length with h1 | h1
    · rw [show (min (at_ : Int) (x.2.2.length : Int)).toNat = at_ by omega]
    · rw [List.drop_of_length_le h1, List.drop_of_length_le (by omega)]
  have hD2 : List.take (min (mm : Int) (D1.length : Int)).toNat D1 = D := by
    rw [← HD.out, readD, HD1.out]
    rcases Nat.le_total mm D1.length with h1 | h1
    · rw [show (min (mm : Int) (D1.length : Int)).toNat = mm by omega]
    · rw [List.take_of_length_le h1, List.take_of_length_le (by omega)]
  have hlD : D1.length ≤ 100000 := by rw [← HD1.out, List.length_drop]; omega
  have f0 := R3.out.free 0
  have f1 := R3.out.free 1
  have f2 := R3.out.free 2
  have f3 := R3.out.free 3
  have f4 := R3.out.free 4
  have f5 := R3.out.free 5
  have f6 := R3.out.free 6
  have z0 := R3.out.cell 0 rfl
  have z1 := R3.out.cell 1 rfl
  have z2 := R3.out.cell 2 rfl
  have z3 := R3.out.cell 3 rfl
  have z4 := R3.out.cell 4 rfl
  have z5 := R3.out.cell 5 rfl
  have z6 := R3.out.cell 6 rfl
  have RZ := Lib.hid (setR_box R3.out (⟨0, D, .slice none 0 0, 0, 0, 0, 0⟩ : Rep))
  have HZ := Lib.hid (H3.out.box Hne.out (setR_mod w3 p (⟨0, D, .slice none 0 0, 0, 0, 0, 0⟩ : Rep)) R3.out rep_no2 rep_nohe)
  have TZ := Lib.hid (bmod B3.out (setR_mod w3 p (⟨0, D, .slice none 0 0, 0, 0, 0, 0⟩ : Rep)) (by have := Hp.out; omega))
  go_wp2
  obtain ⟨wz, Hwz⟩ : ∃ u, Hid (setR w3 p (⟨0, D, .slice none 0 0, 0, 0, 0, 0⟩ : Rep) = u) := ⟨_, Lib.hid rfl⟩
  rw [Hwz.out] at RZ HZ TZ
  rw [show ((((((w3.setCell ⟨p, 0, none⟩ (.int .i64 0)).setCell ⟨p, 1, none⟩ (.string (str D))).setCell ⟨p, 2, none⟩ (.slice none 0 0)).setCell ⟨p, 3, none⟩ (.int .i64 0)).setCell ⟨p, 4, none⟩ (.int .i64 0)).setCell ⟨p, 5, none⟩ (.int .i64 0)).setCell ⟨p, 6, none⟩ (.int .i64 0) = wz from Hwz.out]
  have s0 := RZ.out.cell 0 rfl
  have s1 := RZ.out.cell 1 rfl
  have s2 := RZ.out.cell 2 rfl
  have s3 := RZ.out.cell 3 rfl
  have s4 := RZ.out.cell 4 rfl
  have s5 := RZ.out.cell 5 rfl
  have s6 := RZ.out.cell 6 rfl
  exact bodyPost_ret (v := repV (⟨0, D, .slice none 0 0, 0, 0, 0, 0⟩ : Rep)) (by simp [results, Tryz.results33, go_sem, s0, s1, s2, s3, s4, s5, s6]) rfl ⟨rfl, HZ.out, TZ.out⟩
end
end Go.Proofs.YtiomhdanmcnaeaaGreatDoor
