/- A call is done: what it tells, and the tree that is left. -/
import Derived.Test.YtiomhdanmcnaeaaGreatDoorUj16
import Derived.Test.YtiomhdanmcnaeaaGreatDoorUc16
import Derived.Test.YtiomhdanmcnaeaaGreatDoorUd16
import Derived.Test.YtiomhdanmcnaeaaGreatDoorUf16
import Derived.Test.YtiomhdanmcnaeaaGreatDoorUg16
namespace Go.Proofs.YtiomhdanmcnaeaaGreatDoor
open Go.RowKit

theorem doer_1 (b : Nat) (w : World) : Calls Tryz.prog 15 #[.pointer (some ⟨b, 0, none⟩), .int .i64 1] w fun e w' => e = .returned (.func (.func 29) #[.pointer (some ⟨b, 0, none⟩)] #[]) ∧ w = w' := by
  go_enter Tryz.func15, Tryz.ntmps15
  go_wp2
  go_ret
  exact ⟨rfl, rfl⟩
theorem doer_2 (b : Nat) (w : World) : Calls Tryz.prog 15 #[.pointer (some ⟨b, 0, none⟩), .int .i64 2] w fun e w' => e = .returned (.func (.func 29) #[.pointer (some ⟨b, 0, none⟩)] #[]) ∧ w = w' := by
  go_enter Tryz.func15, Tryz.ntmps15
  go_wp2
  go_ret
  exact ⟨rfl, rfl⟩
theorem doer_3 (b : Nat) (w : World) : Calls Tryz.prog 15 #[.pointer (some ⟨b, 0, none⟩), .int .i64 3] w fun e w' => e = .returned (.func (.func 30) #[.pointer (some ⟨b, 0, none⟩)] #[]) ∧ w = w' := by
  go_enter Tryz.func15, Tryz.ntmps15
  go_wp2
  go_ret
  exact ⟨rfl, rfl⟩
theorem doer_12 (b : Nat) (w : World) : Calls Tryz.prog 15 #[.pointer (some ⟨b, 0, none⟩), .int .i64 12] w fun e w' => e = .returned (.func (.func 38) #[.pointer (some ⟨b, 0, none⟩)] #[]) ∧ w = w' := by
  go_enter Tryz.func15, Tryz.ntmps15
  go_wp2
  go_ret
  exact ⟨rfl, rfl⟩
theorem doer_10 (b : Nat) (w : World) : Calls Tryz.prog 15 #[.pointer (some ⟨b, 0, none⟩), .int .i64 10] w fun e w' => e = .returned (.func (.func 37) #[.pointer (some ⟨b, 0, none⟩)] #[]) ∧ w = w' := by
  go_enter Tryz.func15, Tryz.ntmps15
  go_wp2
  go_ret
  exact ⟨rfl, rfl⟩
section
variable {w : World} {b n : Nat} {mt ml : Option Nat} {T : Tr}
set_option maxRecDepth 100000 in
set_option maxHeartbeats 8000000 in
theorem do_1 {c : Nat} (h : IsT w b mt ml n T) (ht : TokC T c) (hc : c + 3 ≤ 1000000) (hn : n + 10 < 100000000) (hm : Mx w) (off nn : Int) (data : List UInt8) (dst : List UInt8) (Y : List (List UInt8)) (s : List UInt8) (hX : PathOk (Y ++ [s])) (hl : (pathOf (Y ++ [s])).length ≤ 1000000) :
    Calls Tryz.prog 8 #[.pointer (some ⟨b, 0, none⟩), calV ⟨1, pathOf (Y ++ [s]), dst, off, nn, data⟩] w fun e w' => e = .returned (repV (repE (T.newE Y s 1))) ∧ ∃ mt' ml', IsT w' b mt' ml' (n + 2) (if T.newE Y s 1 = 0 then T.newT Y s 1 else T) ∧ Turn w w' b mt ml mt' ml' := by
  have H := Lib.hid h
  have Ht := Lib.hid ht
  have HA := Lib.hid (fun (u : World) (hu : Mx u) => ask_1 (Y ++ [s]) hX hl (by simp) off nn data dst u hu)
  have Hsn : Hid (∀ x ∈ Y ++ [s], 1 ≤ x.length ∧ x.length ≤ 1000) := Lib.hid (fun x hx => by have := name_some (hX.a x hx); omega)
  obtain ⟨l, Hl⟩ : ∃ r, Hid (pathOf (Y ++ [s]) = r) := ⟨_, Lib.hid rfl⟩
  obtain ⟨E, HE⟩ : ∃ r, Hid ((T.newE Y s 1) = r) := ⟨_, Lib.hid rfl⟩
  obtain ⟨T2, HT2⟩ : ∃ r, Hid ((if T.newE Y s 1 = 0 then T.newT Y s 1 else T) = r) := ⟨_, Lib.hid rfl⟩
  have Hne : Hid (∀ p l, T2.ls p = some l → l ≠ []) := Lib.hid (by
    rw [← HT2.out]
    have hsn := Hsn.out
    split
    · next h0 => exact (newT_ok ht (by omega) h0 (hsn s (by simp)) 1).ne
    · exact ht.ne)
  rw [HT2.out, HE.out, Hl.out]
  simp only [Hl.out] at HA
  clear h ht 
  go_enter Tryz.func8, Tryz.ntmps8
  go_upto_region 1 with (fail)
  obtain ⟨w1, Hw1⟩ : ∃ u, Hid (w.alloc (.cells #[.int .i64 1, .string (str l), .string (str dst), .int .i64 off, .int .i64 nn, .string (str data)] 32) = u) := ⟨_, Lib.hid rfl⟩
  obtain ⟨w2, Hw2⟩ : ∃ u, Hid (w1.alloc (.cells rep0 29) = u) := ⟨_, Lib.hid rfl⟩
  obtain ⟨q, Hq⟩ : ∃ u, Hid (w.heap.size = u) := ⟨_, Lib.hid rfl⟩
  obtain ⟨p, Hp⟩ : ∃ u, Hid (w.heap.size + 1 = u) := ⟨_, Lib.hid rfl⟩
  have e1 : w1.heap.size = p := by rw [← Hw1.out, ← Hp.out]; simp
  have b1 : Below w.heap.size w w1 := by rw [← Hw1.out]; exact balloc (Below.refl _ _) _
  have b2 : Below w1.heap.size w1 w2 := by rw [← Hw2.out]; exact balloc (Below.refl _ _) _
  have Q2 : Hid (BoxC w2 q #[.int .i64 1, .string (str l), .string (str dst), .int .i64 off, .int .i64 nn, .string (str data)] 32) := Lib.hid (by
    have h : BoxC w1 q #[.int .i64 1, .string (str l), .string (str dst), .int .i64 off, .int .i64 nn, .string (str data)] 32 := by rw [← Hw1.out, ← Hq.out]; exact BoxC.new w _ _
    exact h.below b2)
  have P2 : Hid (BoxC w2 p rep0 29) := Lib.hid (by rw [← Hw2.out, ← e1]; exact BoxC.new w1 _ _)
  have B2 : Hid (Below w.heap.size w w2) := Lib.hid (bnext b1 b2)
  clear b1 b2 e1
  rw [Hw1.out, Hw2.out, Hp.out, Hq.out]
  have c0 := Q2.out.cell 0 rfl
  have c1 := Q2.out.cell 1 rfl
  have c2 := Q2.out.cell 2 rfl
  have c3 := Q2.out.cell 3 rfl
  have c4 := Q2.out.cell 4 rfl
  have c5 := Q2.out.cell 5 rfl
  go_wp2_with fail
  clear c0 c1 c2 c3 c4 c5
  refine (HA.out w2 (hm.below B2.out)).mono ?_
  rintro e w3 ⟨A, k, cc, rfl, hkX, hkc, hG, hnw, hb⟩
  have B3 := Lib.hid (bnext B2.out hb)
  have Q3 := Lib.hid (Q2.out.below hb)
  have P3 := Lib.hid (P2.out.below hb)
  have HG := Lib.hid hG
  have HKc := Lib.hid hkc
  have HN : Hid (∀ g off, A = some ⟨g, off, none⟩ → w2.heap.size ≤ g) := Lib.hid hnw
  obtain rfl : k = Y.length + 1 := by rw [hkX]; simp
  clear hkX
  clear hG hkc hnw
  clear hb
  go_upto_region 4 with (fail)
  obtain ⟨w4, Hw4⟩ : ∃ u, Hid (w3.alloc (.cells #[.int .i64 1, .string (str l), .string (str dst), .int .i64 off, .int .i64 nn, .string (str data), .slice A (Y.length + 1) cc, .slice none 0 0, .int .i64 0] 49) = u) := ⟨_, Lib.hid rfl⟩
  obtain ⟨r, Hr⟩ : ∃ u, Hid (w3.heap.size = u) := ⟨_, Lib.hid rfl⟩
  have R4 : Hid (BoxC w4 r #[.int .i64 1, .string (str l), .string (str dst), .int .i64 off, .int .i64 nn, .string (str data), .slice A (Y.length + 1) cc, .slice none 0 0, .int .i64 0] 49) := Lib.hid (by rw [← Hw4.out, ← Hr.out]; exact BoxC.new w3 _ _)
  have b4 : Below w3.heap.size w3 w4 := by rw [← Hw4.out]; exact balloc (Below.refl _ _) _
  have B4 := Lib.hid (bnext B3.out b4)
  have Q4 := Lib.hid (Q3.out.below b4)
  have P4 := Lib.hid (P3.out.below b4)
  have C4 : Hid (Below w3.heap.size w3 w4) := Lib.hid b4
  have H4 := Lib.hid (H.out.below B4.out)
  clear b4
  rw [Hw4.out, Hr.out]
  have c0 := Q4.out.cell 0 rfl
  have G4 := Lib.hid (HG.out.below C4.out)
  go_upto_region 8 with (fail)
  clear c0
  have H6 := H4
  have P6 := P4
  have Q6 := Q4
  have R6 := R4
  have B6 := B4
  have G6 := G4
  have hpo := H6.out.notOwn P6.out rep_no2
  have hqo := H6.out.notOwn Q6.out (fun x h => by cases h)
  have hro := H6.out.notOwn R6.out (fun x h => by cases h)
  have i0 : Nonempty (In (fun u => Mod (OwnT b mt ml) w4 u)) := ⟨⟨w4, Mod.refl _ w4⟩⟩
  have c0 : ∀ y : In (fun u => Mod (OwnT b mt ml) w4 u), y.u.cell? ⟨q, 0, none⟩ = some (.int .i64 1) := fun y => (Q6.out.kept y.is hqo).cell 0 rfl
  have r0 : ∀ y : In (fun u => Mod (OwnT b mt ml) w4 u), y.u.cell? ⟨r, 0, none⟩ = some (.int .i64 1) := fun y => (R6.out.kept y.is hro).cell 0 rfl
  have r1 : ∀ y : In (fun u => Mod (OwnT b mt ml) w4 u), y.u.cell? ⟨r, 1, none⟩ = some (.string (str l)) := fun y => (R6.out.kept y.is hro).cell 1 rfl
  have r2 : ∀ y : In (fun u => Mod (OwnT b mt ml) w4 u), y.u.cell? ⟨r, 2, none⟩ = some (.string (str dst)) := fun y => (R6.out.kept y.is hro).cell 2 rfl
  have r3 : ∀ y : In (fun u => Mod (OwnT b mt ml) w4 u), y.u.cell? ⟨r, 3, none⟩ = some (.int .i64 off) := fun y => (R6.out.kept y.is hro).cell 3 rfl
  have r4 : ∀ y : In (fun u => Mod (OwnT b mt ml) w4 u), y.u.cell? ⟨r, 4, none⟩ = some (.int .i64 nn) := fun y => (R6.out.kept y.is hro).cell 4 rfl
  have r5 : ∀ y : In (fun u => Mod (OwnT b mt ml) w4 u), y.u.cell? ⟨r, 5, none⟩ = some (.string (str data)) := fun y => (R6.out.kept y.is hro).cell 5 rfl
  have r6 : ∀ y : In (fun u => Mod (OwnT b mt ml) w4 u), y.u.cell? ⟨r, 6, none⟩ = some (.slice A (Y.length + 1) cc) := fun y => (R6.out.kept y.is hro).cell 6 rfl
  have r7 : ∀ y : In (fun u => Mod (OwnT b mt ml) w4 u), y.u.cell? ⟨r, 7, none⟩ = some (.slice none 0 0) := fun y => (R6.out.kept y.is hro).cell 7 rfl
  have r8 : ∀ y : In (fun u => Mod (OwnT b mt ml) w4 u), y.u.cell? ⟨r, 8, none⟩ = some (.int .i64 0) := fun y => (R6.out.kept y.is hro).cell 8 rfl
  refine wp_region_mix (by kernel_rfl) (Cls (fun u => Mod (OwnT b mt ml) w4 u)) [(0, 0), (1, 0), (2, 0), (4, 0), (3, 1), (5, 1), (6, 2)] (by kernel_rfl) (cls (Mod.refl _ w4).drew) ?_
  repeat (refine mix0 rfl (fun K hK => ?_); go_simp; refine hK _ ?_; clear hK K)
  refine mix1 rfl (fun K hK => ?_)
  go_simp
  refine (doer_1 b _).mono ?_
  rintro e w7 ⟨rfl, rfl⟩
  refine ⟨_, rfl, hK _ _ (cls (Mod.refl _ w4).drew) ?_⟩
  clear hK K
  repeat (refine mix0 rfl (fun K hK => ?_); go_simp; refine hK _ ?_; clear hK K)
  refine mix1 rfl (fun K hK => ?_)
  go_simp
  refine (create_any (H6.out.below (Below.refl _ w4).drew) Ht.out hc hn (⟨1, l, dst, off, nn, data⟩ : Cal) A Y.length cc Y s (G6.out.below (Below.refl _ w4).drew) HKc.out Hsn.out none 0 0 0).mono ?_
  rw [HT2.out]
  rw [HE.out]
  rintro e w8 ⟨rfl, mt1, ml1, h8, t8⟩
  have H8 := Lib.hid h8
  have T68 : Hid (Turn w4 w8 b mt ml mt1 ml1) := Lib.hid ((Turn.below b mt ml (Below.refl _ w4).drew).trans t8)
  clear h8 t8
  refine ⟨_, rfl, hK _ _ (cls T68.out.mod) ?_⟩
  clear hK K
  have P8 := Lib.hid (P6.out.kept T68.out.mod hpo)
  have T8 : Hid (Turn w w8 b mt ml mt1 ml1) := Lib.hid ((Turn.below b mt ml B6.out).trans T68.out)
  clear c0 r0 r1 r2 r3 r4 r5 r6 r7 r8
  have f0 := P8.out.free 0
  have f1 := P8.out.free 1
  have f2 := P8.out.free 2
  have f3 := P8.out.free 3
  have f4 := P8.out.free 4
  have f5 := P8.out.free 5
  have f6 := P8.out.free 6
  have z0 := P8.out.cell 0 rfl
  have z1 := P8.out.cell 1 rfl
  have z2 := P8.out.cell 2 rfl
  have z3 := P8.out.cell 3 rfl
  have z4 := P8.out.cell 4 rfl
  have z5 := P8.out.cell 5 rfl
  have z6 := P8.out.cell 6 rfl
  refine mix2 rfl (fun K hK => ?_)
  go_simp
  refine hK _ _ ?_
  clear hK K f0 f1 f2 f3 f4 f5 f6 z0 z1 z2 z3 z4 z5 z6
  refine mixEnd ?_
  have RZ := Lib.hid (setR_box P8.out (repE E))
  have HZ := Lib.hid (H8.out.box Hne.out (setR_mod w8 p (repE E)) P8.out rep_no2 rep_nohe)
  have TZ := Lib.hid (T8.out.fresh (setR_mod w8 p (repE E)) (by have := Hp.out; omega))
  obtain ⟨wz, Hwz⟩ : ∃ u, Hid (setR w8 p (repE E) = u) := ⟨_, Lib.hid rfl⟩
  rw [Hwz.out] at RZ HZ TZ
  rw [show ((((((w8.setCell ⟨p, 0, none⟩ (.int .i64 E)).setCell ⟨p, 1, none⟩ (.string (str []))).setCell ⟨p, 2, none⟩ (.slice none 0 0)).setCell ⟨p, 3, none⟩ (.int .i64 0)).setCell ⟨p, 4, none⟩ (.int .i64 0)).setCell ⟨p, 5, none⟩ (.int .i64 0)).setCell ⟨p, 6, none⟩ (.int .i64 0) = wz from Hwz.out]
  go_wp2
  have s0 := RZ.out.cell 0 rfl
  have s1 := RZ.out.cell 1 rfl
  have s2 := RZ.out.cell 2 rfl
  have s3 := RZ.out.cell 3 rfl
  have s4 := RZ.out.cell 4 rfl
  have s5 := RZ.out.cell 5 rfl
  have s6 := RZ.out.cell 6 rfl
  exact bodyPost_ret (v := repV (repE E)) (by simp [results, Tryz.results8, go_sem, s0, s1, s2, s3, s4, s5, s6]) rfl ⟨rfl, mt1, ml1, HZ.out, TZ.out⟩
set_option maxRecDepth 100000 in
set_option maxHeartbeats 8000000 in
theorem do_2 {c : Nat} (h : IsT w b mt ml n T) (ht : TokC T c) (hc : c + 3 ≤ 1000000) (hn : n + 10 < 100000000) (hm : Mx w) (off nn : Int) (data : List UInt8) (dst : List UInt8) (Y : List (List UInt8)) (s : List UInt8) (hX : PathOk (Y ++ [s])) (hl : (pathOf (Y ++ [s])).length ≤ 1000000) :
    Calls Tryz.prog 8 #[.pointer (some ⟨b, 0, none⟩), calV ⟨2, pathOf (Y ++ [s]), dst, off, nn, data⟩] w fun e w' => e = .returned (repV (repE (T.newE Y s 1))) ∧ ∃ mt' ml', IsT w' b mt' ml' (n + 2) (if T.newE Y s 1 = 0 then T.newT Y s 2 else T) ∧ Turn w w' b mt ml mt' ml' := by
  have H := Lib.hid h
  have Ht := Lib.hid ht
  have HA := Lib.hid (fun (u : World) (hu : Mx u) => ask_2 (Y ++ [s]) hX hl (by simp) off nn data dst u hu)
  have Hsn : Hid (∀ x ∈ Y ++ [s], 1 ≤ x.length ∧ x.length ≤ 1000) := Lib.hid (fun x hx => by have := name_some (hX.a x hx); omega)
  obtain ⟨l, Hl⟩ : ∃ r, Hid (pathOf (Y ++ [s]) = r) := ⟨_, Lib.hid rfl⟩
  obtain ⟨E, HE⟩ : ∃ r, Hid ((T.newE Y s 1) = r) := ⟨_, Lib.hid rfl⟩
  obtain ⟨T2, HT2⟩ : ∃ r, Hid ((if T.newE Y s 1 = 0 then T.newT Y s 2 else T) = r) := ⟨_, Lib.hid rfl⟩
  have Hne : Hid (∀ p l, T2.ls p = some l → l ≠ []) := Lib.hid (by
    rw [← HT2.out]
    have hsn := Hsn.out
    split
    · next h0 => exact (newT_ok ht (by omega) h0 (hsn s (by simp)) 2).ne
    · exact ht.ne)
  rw [HT2.out, HE.out, Hl.out]
  simp only [Hl.out] at HA
  clear h ht 
  go_enter Tryz.func8, Tryz.ntmps8
  go_upto_region 1 with (fail)
  obtain ⟨w1, Hw1⟩ : ∃ u, Hid (w.alloc (.cells #[.int .i64 2, .string (str l), .string (str dst), .int .i64 off, .int .i64 nn, .string (str data)] 32) = u) := ⟨_, Lib.hid rfl⟩
  obtain ⟨w2, Hw2⟩ : ∃ u, Hid (w1.alloc (.cells rep0 29) = u) := ⟨_, Lib.hid rfl⟩
  obtain ⟨q, Hq⟩ : ∃ u, Hid (w.heap.size = u) := ⟨_, Lib.hid rfl⟩
  obtain ⟨p, Hp⟩ : ∃ u, Hid (w.heap.size + 1 = u) := ⟨_, Lib.hid rfl⟩
  have e1 : w1.heap.size = p := by rw [← Hw1.out, ← Hp.out]; simp
  have b1 : Below w.heap.size w w1 := by rw [← Hw1.out]; exact balloc (Below.refl _ _) _
  have b2 : Below w1.heap.size w1 w2 := by rw [← Hw2.out]; exact balloc (Below.refl _ _) _
  have Q2 : Hid (BoxC w2 q #[.int .i64 2, .string (str l), .string (str dst), .int .i64 off, .int .i64 nn, .string (str data)] 32) := Lib.hid (by
    have h : BoxC w1 q #[.int .i64 2, .string (str l), .string (str dst), .int .i64 off, .int .i64 nn, .string (str data)] 32 := by rw [← Hw1.out, ← Hq.out]; exact BoxC.new w _ _
    exact h.below b2)
  have P2 : Hid (BoxC w2 p rep0 29) := Lib.hid (by rw [← Hw2.out, ← e1]; exact BoxC.new w1 _ _)
  have B2 : Hid (Below w.heap.size w w2) := Lib.hid (bnext b1 b2)
  clear b1 b2 e1
  rw [Hw1.out, Hw2.out, Hp.out, Hq.out]
  have c0 := Q2.out.cell 0 rfl
  have c1 := Q2.out.cell 1 rfl
  have c2 := Q2.out.cell 2 rfl
  have c3 := Q2.out.cell 3 rfl
  have c4 := Q2.out.cell 4 rfl
  have c5 := Q2.out.cell 5 rfl
  go_wp2_with fail
  clear c0 c1 c2 c3 c4 c5
  refine (HA.out w2 (hm.below B2.out)).mono ?_
  rintro e w3 ⟨A, k, cc, rfl, hkX, hkc, hG, hnw, hb⟩
  have B3 := Lib.hid (bnext B2.out hb)
  have Q3 := Lib.hid (Q2.out.below hb)
  have P3 := Lib.hid (P2.out.below hb)
  have HG := Lib.hid hG
  have HKc := Lib.hid hkc
  have HN : Hid (∀ g off, A = some ⟨g, off, none⟩ → w2.heap.size ≤ g) := Lib.hid hnw
  obtain rfl : k = Y.length + 1 := by rw [hkX]; simp
  clear hkX
  clear hG hkc hnw
  clear hb
  go_upto_region 4 with (fail)
  obtain ⟨w4, Hw4⟩ : ∃ u, Hid (w3.alloc (.cells #[.int .i64 2, .string (str l), .string (str dst), .int .i64 off, .int .i64 nn, .string (str data), .slice A (Y.length + 1) cc, .slice none 0 0, .int .i64 0] 49) = u) := ⟨_, Lib.hid rfl⟩
  obtain ⟨r, Hr⟩ : ∃ u, Hid (w3.heap.size = u) := ⟨_, Lib.hid rfl⟩
  have R4 : Hid (BoxC w4 r #[.int .i64 2, .string (str l), .string (str dst), .int .i64 off, .int .i64 nn, .string (str data), .slice A (Y.length + 1) cc, .slice none 0 0, .int .i64 0] 49) := Lib.hid (by rw [← Hw4.out, ← Hr.out]; exact BoxC.new w3 _ _)
  have b4 : Below w3.heap.size w3 w4 := by rw [← Hw4.out]; exact balloc (Below.refl _ _) _
  have B4 := Lib.hid (bnext B3.out b4)
  have Q4 := Lib.hid (Q3.out.below b4)
  have P4 := Lib.hid (P3.out.below b4)
  have C4 : Hid (Below w3.heap.size w3 w4) := Lib.hid b4
  have H4 := Lib.hid (H.out.below B4.out)
  clear b4
  rw [Hw4.out, Hr.out]
  have c0 := Q4.out.cell 0 rfl
  have G4 := Lib.hid (HG.out.below C4.out)
  go_upto_region 8 with (fail)
  clear c0
  have H6 := H4
  have P6 := P4
  have Q6 := Q4
  have R6 := R4
  have B6 := B4
  have G6 := G4
  have hpo := H6.out.notOwn P6.out rep_no2
  have hqo := H6.out.notOwn Q6.out (fun x h => by cases h)
  have hro := H6.out.notOwn R6.out (fun x h => by cases h)
  have i0 : Nonempty (In (fun u => Mod (OwnT b mt ml) w4 u)) := ⟨⟨w4, Mod.refl _ w4⟩⟩
  have c0 : ∀ y : In (fun u => Mod (OwnT b mt ml) w4 u), y.u.cell? ⟨q, 0, none⟩ = some (.int .i64 2) := fun y => (Q6.out.kept y.is hqo).cell 0 rfl
  have r0 : ∀ y : In (fun u => Mod (OwnT b mt ml) w4 u), y.u.cell? ⟨r, 0, none⟩ = some (.int .i64 2) := fun y => (R6.out.kept y.is hro).cell 0 rfl
  have r1 : ∀ y : In (fun u => Mod (OwnT b mt ml) w4 u), y.u.cell? ⟨r, 1, none⟩ = some (.string (str l)) := fun y => (R6.out.kept y.is hro).cell 1 rfl
  have r2 : ∀ y : In (fun u => Mod (OwnT b mt ml) w4 u), y.u.cell? ⟨r, 2, none⟩ = some (.string (str dst)) := fun y => (R6.out.kept y.is hro).cell 2 rfl
  have r3 : ∀ y : In (fun u => Mod (OwnT b mt ml) w4 u), y.u.cell? ⟨r, 3, none⟩ = some (.int .i64 off) := fun y => (R6.out.kept y.is hro).cell 3 rfl
  have r4 : ∀ y : In (fun u => Mod (OwnT b mt ml) w4 u), y.u.cell? ⟨r, 4, none⟩ = some (.int .i64 nn) := fun y => (R6.out.kept y.is hro).cell 4 rfl
  have r5 : ∀ y : In (fun u => Mod (OwnT b mt ml) w4 u), y.u.cell? ⟨r, 5, none⟩ = some (.string (str data)) := fun y => (R6.out.kept y.is hro).cell 5 rfl
  have r6 : ∀ y : In (fun u => Mod (OwnT b mt ml) w4 u), y.u.cell? ⟨r, 6, none⟩ = some (.slice A (Y.length + 1) cc) := fun y => (R6.out.kept y.is hro).cell 6 rfl
  have r7 : ∀ y : In (fun u => Mod (OwnT b mt ml) w4 u), y.u.cell? ⟨r, 7, none⟩ = some (.slice none 0 0) := fun y => (R6.out.kept y.is hro).cell 7 rfl
  have r8 : ∀ y : In (fun u => Mod (OwnT b mt ml) w4 u), y.u.cell? ⟨r, 8, none⟩ = some (.int .i64 0) := fun y => (R6.out.kept y.is hro).cell 8 rfl
  refine wp_region_mix (by kernel_rfl) (Cls (fun u => Mod (OwnT b mt ml) w4 u)) [(0, 0), (1, 0), (2, 0), (4, 0), (3, 1), (5, 1), (6, 2)] (by kernel_rfl) (cls (Mod.refl _ w4).drew) ?_
  repeat (refine mix0 rfl (fun K hK => ?_); go_simp; refine hK _ ?_; clear hK K)
  refine mix1 rfl (fun K hK => ?_)
  go_simp
  refine (doer_2 b _).mono ?_
  rintro e w7 ⟨rfl, rfl⟩
  refine ⟨_, rfl, hK _ _ (cls (Mod.refl _ w4).drew) ?_⟩
  clear hK K
  repeat (refine mix0 rfl (fun K hK => ?_); go_simp; refine hK _ ?_; clear hK K)
  refine mix1 rfl (fun K hK => ?_)
  go_simp
  refine (create_any (H6.out.below (Below.refl _ w4).drew) Ht.out hc hn (⟨2, l, dst, off, nn, data⟩ : Cal) A Y.length cc Y s (G6.out.below (Below.refl _ w4).drew) HKc.out Hsn.out none 0 0 0).mono ?_
  rw [HT2.out]
  rw [HE.out]
  rintro e w8 ⟨rfl, mt1, ml1, h8, t8⟩
  have H8 := Lib.hid h8
  have T68 : Hid (Turn w4 w8 b mt ml mt1 ml1) := Lib.hid ((Turn.below b mt ml (Below.refl _ w4).drew).trans t8)
  clear h8 t8
  refine ⟨_, rfl, hK _ _ (cls T68.out.mod) ?_⟩
  clear hK K
  have P8 := Lib.hid (P6.out.kept T68.out.mod hpo)
  have T8 : Hid (Turn w w8 b mt ml mt1 ml1) := Lib.hid ((Turn.below b mt ml B6.out).trans T68.out)
  clear c0 r0 r1 r2 r3 r4 r5 r6 r7 r8
  have f0 := P8.out.free 0
  have f1 := P8.out.free 1
  have f2 := P8.out.free 2
  have f3 := P8.out.free 3
  have f4 := P8.out.free 4
  have f5 := P8.out.free 5
  have f6 := P8.out.free 6
  have z0 := P8.out.cell 0 rfl
  have z1 := P8.out.cell 1 rfl
  have z2 := P8.out.cell 2 rfl
  have z3 := P8.out.cell 3 rfl
  have z4 := P8.out.cell 4 rfl
  have z5 := P8.out.cell 5 rfl
  have z6 := P8.out.cell 6 rfl
  refine mix2 rfl (fun K hK => ?_)
  go_simp
  refine hK _ _ ?_
  clear hK K f0 f1 f2 f3 f4 f5 f6 z0 z1 z2 z3 z4 z5 z6
  refine mixEnd ?_
  have RZ := Lib.hid (setR_box P8.out (repE E))
  have HZ := Lib.hid (H8.out.box Hne.out (setR_mod w8 p (repE E)) P8.out rep_no2 rep_nohe)
  have TZ := Lib.hid (T8.out.fresh (setR_mod w8 p (repE E)) (by have := Hp.out; omega))
  obtain ⟨wz, Hwz⟩ : ∃ u, Hid (setR w8 p (repE E) = u) := ⟨_, Lib.hid rfl⟩
  rw [Hwz.out] at RZ HZ TZ
  rw [show ((((((w8.setCell ⟨p, 0, none⟩ (.int .i64 E)).setCell ⟨p, 1, none⟩ (.string (str []))).setCell ⟨p, 2, none⟩ (.slice none 0 0)).setCell ⟨p, 3, none⟩ (.int .i64 0)).setCell ⟨p, 4, none⟩ (.int .i64 0)).setCell ⟨p, 5, none⟩ (.int .i64 0)).setCell ⟨p, 6, none⟩ (.int .i64 0) = wz from Hwz.out]
  go_wp2
  have s0 := RZ.out.cell 0 rfl
  have s1 := RZ.out.cell 1 rfl
  have s2 := RZ.out.cell 2 rfl
  have s3 := RZ.out.cell 3 rfl
  have s4 := RZ.out.cell 4 rfl
  have s5 := RZ.out.cell 5 rfl
  have s6 := RZ.out.cell 6 rfl
  exact bodyPost_ret (v := repV (repE E)) (by simp [results, Tryz.results8, go_sem, s0, s1, s2, s3, s4, s5, s6]) rfl ⟨rfl, mt1, ml1, HZ.out, TZ.out⟩
set_option maxRecDepth 100000 in
set_option maxHeartbeats 8000000 in
theorem do_3 {c : Nat} (h : IsT w b mt ml n T) (ht : TokC T c) (hc : c + 3 ≤ 1000000) (hn : n + 10 < 100000000) (hm : Mx w) (off nn : Int) (data : List UInt8) (X : List (List UInt8)) (hX : PathOk X) (hl : (pathOf X).length ≤ 1000000) (hle : 1 ≤ X.length) (Y : List (List UInt8)) (s : List UInt8) (hZ : PathOk (Y ++ [s])) (hlz : (pathOf (Y ++ [s])).length ≤ 1000000) (th : Int) (hwk : T.walkP 0 X = (th, 0)) (x : Thg) (hx : T.th th = some x) (hth : 1 ≤ th ∧ th ≤ T.last) :
    Calls Tryz.prog 8 #[.pointer (some ⟨b, 0, none⟩), calV ⟨3, pathOf X, pathOf (Y ++ [s]), off, nn, data⟩] w fun e w' => e = .returned (repV (repE (T.linkE th Y s))) ∧ ∃ mt' ml', IsT w' b mt' ml' (n + 2) (if T.linkE th Y s = 0 then T.linkT th Y s else T) ∧ Turn w w' b mt ml mt' ml' := by
  have H := Lib.hid h
  have Ht := Lib.hid ht
  have HA := Lib.hid (fun (u : World) (hu : Mx u) => ask_3 X hX hl hle (Y ++ [s]) hZ hlz (by simp) off nn data u hu)
  have Hw := Lib.hid hwk
  have Hsn : Hid (∀ x ∈ Y ++ [s], 1 ≤ x.length ∧ x.length ≤ 1000) := Lib.hid (fun x hx => by have := name_some (hZ.a x hx); omega)
  have Hsx : Hid (∀ x ∈ X, x.length ≤ 1000) := Lib.hid (fun x hx => by have := name_some (hX.a x hx); omega)
  obtain ⟨l, Hl⟩ : ∃ r, Hid (pathOf X = r) := ⟨_, Lib.hid rfl⟩
  obtain ⟨l2, Hl2⟩ : ∃ r, Hid (pathOf (Y ++ [s]) = r) := ⟨_, Lib.hid rfl⟩
  obtain ⟨E, HE⟩ : ∃ r, Hid ((T.linkE th Y s) = r) := ⟨_, Lib.hid rfl⟩
  obtain ⟨T2, HT2⟩ : ∃ r, Hid ((if T.linkE th Y s = 0 then T.linkT th Y s else T) = r) := ⟨_, Lib.hid rfl⟩
  have Hne : Hid (∀ p l, T2.ls p = some l → l ≠ []) := Lib.hid (by
    rw [← HT2.out]
    have hsn := Hsn.out
    split
    · next h0 => exact (linkT_ok ht (by omega) hx hth h0 (hsn s (by simp))).ne
    · exact ht.ne)
  rw [HT2.out, HE.out, Hl.out, Hl2.out]
  simp only [Hl.out, Hl2.out] at HA
  have Ux := Lib.hid hx
  have hxb := ht.th th x hx
  have hlast := ht.tok.last
  have hwf : (Lit.int .i64 th).wf = true := wf_of (by omega)
  clear h ht  hx hwk
  go_enter Tryz.func8, Tryz.ntmps8
  go_upto_region 1 with (fail)
  obtain ⟨w1, Hw1⟩ : ∃ u, Hid (w.alloc (.cells #[.int .i64 3, .string (str l), .string (str l2), .int .i64 off, .int .i64 nn, .string (str data)] 32) = u) := ⟨_, Lib.hid rfl⟩
  obtain ⟨w2, Hw2⟩ : ∃ u, Hid (w1.alloc (.cells rep0 29) = u) := ⟨_, Lib.hid rfl⟩
  obtain ⟨q, Hq⟩ : ∃ u, Hid (w.heap.size = u) := ⟨_, Lib.hid rfl⟩
  obtain ⟨p, Hp⟩ : ∃ u, Hid (w.heap.size + 1 = u) := ⟨_, Lib.hid rfl⟩
  have e1 : w1.heap.size = p := by rw [← Hw1.out, ← Hp.out]; simp
  have b1 : Below w.heap.size w w1 := by rw [← Hw1.out]; exact balloc (Below.refl _ _) _
  have b2 : Below w1.heap.size w1 w2 := by rw [← Hw2.out]; exact balloc (Below.refl _ _) _
  have Q2 : Hid (BoxC w2 q #[.int .i64 3, .string (str l), .string (str l2), .int .i64 off, .int .i64 nn, .string (str data)] 32) := Lib.hid (by
    have h : BoxC w1 q #[.int .i64 3, .string (str l), .string (str l2), .int .i64 off, .int .i64 nn, .string (str data)] 32 := by rw [← Hw1.out, ← Hq.out]; exact BoxC.new w _ _
    exact h.below b2)
  have P2 : Hid (BoxC w2 p rep0 29) := Lib.hid (by rw [← Hw2.out, ← e1]; exact BoxC.new w1 _ _)
  have B2 : Hid (Below w.heap.size w w2) := Lib.hid (bnext b1 b2)
  clear b1 b2 e1
  rw [Hw1.out, Hw2.out, Hp.out, Hq.out]
  have c0 := Q2.out.cell 0 rfl
  have c1 := Q2.out.cell 1 rfl
  have c2 := Q2.out.cell 2 rfl
  have c3 := Q2.out.cell 3 rfl
  have c4 := Q2.out.cell 4 rfl
  have c5 := Q2.out.cell 5 rfl
  go_wp2_with fail
  clear c0 c1 c2 c3 c4 c5
  refine (HA.out w2 (hm.below B2.out)).mono ?_
  rintro e w3 ⟨A, k, cc, B, m, d, rfl, hkX, hkc, hG, hnw, hmZ, hmd, hG2, hnw2, hb⟩
  have B3 := Lib.hid (bnext B2.out hb)
  have Q3 := Lib.hid (Q2.out.below hb)
  have P3 := Lib.hid (P2.out.below hb)
  have HG := Lib.hid hG
  have HKc := Lib.hid hkc
  have HN : Hid (∀ g off, A = some ⟨g, off, none⟩ → w2.heap.size ≤ g) := Lib.hid hnw
  have HKx := Lib.hid hkX
  clear hkX
  clear hG hkc hnw
  have HG2 := Lib.hid hG2
  have HMd := Lib.hid hmd
  have HN2 : Hid (∀ g off, B = some ⟨g, off, none⟩ → w2.heap.size ≤ g) := Lib.hid hnw2
  obtain rfl : m = Y.length + 1 := by rw [hmZ]; simp
  clear hG2 hmd hnw2 hmZ
  clear hb
  go_upto_region 4 with (fail)
  obtain ⟨w4, Hw4⟩ : ∃ u, Hid (w3.alloc (.cells #[.int .i64 3, .string (str l), .string (str l2), .int .i64 off, .int .i64 nn, .string (str data), .slice A k cc, .slice B (Y.length + 1) d, .int .i64 0] 49) = u) := ⟨_, Lib.hid rfl⟩
  obtain ⟨r, Hr⟩ : ∃ u, Hid (w3.heap.size = u) := ⟨_, Lib.hid rfl⟩
  have R4 : Hid (BoxC w4 r #[.int .i64 3, .string (str l), .string (str l2), .int .i64 off, .int .i64 nn, .string (str data), .slice A k cc, .slice B (Y.length + 1) d, .int .i64 0] 49) := Lib.hid (by rw [← Hw4.out, ← Hr.out]; exact BoxC.new w3 _ _)
  have b4 : Below w3.heap.size w3 w4 := by rw [← Hw4.out]; exact balloc (Below.refl _ _) _
  have B4 := Lib.hid (bnext B3.out b4)
  have Q4 := Lib.hid (Q3.out.below b4)
  have P4 := Lib.hid (P3.out.below b4)
  have C4 : Hid (Below w3.heap.size w3 w4) := Lib.hid b4
  have H4 := Lib.hid (H.out.below B4.out)
  clear b4
  rw [Hw4.out, Hr.out]
  have c0 := Q4.out.cell 0 rfl
  have G4 := Lib.hid (HG.out.below C4.out)
  have G24 := Lib.hid (HG2.out.below C4.out)
  have r6 := R4.out.cell 6 rfl
  go_wp2_with fail
  clear c0 r6
  refine (walk_any H4.out Ht.out.tok A k cc X G4.out Hsx.out).mono ?_
  rw [Hw.out]
  rintro e w5 ⟨rfl, hb⟩
  have B5 := Lib.hid (bnext B4.out hb)
  have Q5 := Lib.hid (Q4.out.below hb)
  have P5 := Lib.hid (P4.out.below hb)
  have R5 := Lib.hid (R4.out.below hb)
  have G5 := Lib.hid (G4.out.below hb)
  have H5 := Lib.hid (H4.out.below hb)
  have G25 := Lib.hid (G24.out.below hb)
  clear hb
  have r8 := R5.out.cell 8 rfl
  have rf := R5.out.free 8
  go_upto_region 8 with (fail)
  clear r8 rf
  have hpr : p ≠ r := by have := P3.out.lt; have := Hr.out; omega
  have hqr : q ≠ r := by have := Q3.out.lt; have := Hr.out; omega
  obtain ⟨w6, Hw6⟩ : ∃ u, Hid (w5.setCell ⟨r, 8, none⟩ (.int .i64 th) = u) := ⟨_, Lib.hid rfl⟩
  have M6 : Hid (Mod (· = r) w5 w6) := Lib.hid (by rw [← Hw6.out]; exact (Mod.refl _ w5).set1 _)
  have R6 : Hid (BoxC w6 r #[.int .i64 3, .string (str l), .string (str l2), .int .i64 off, .int .i64 nn, .string (str data), .slice A k cc, .slice B (Y.length + 1) d, .int .i64 th] 49) := Lib.hid (by rw [← Hw6.out]; exact R5.out.put 8 (.int .i64 th))
  have P6 := Lib.hid (P5.out.kept M6.out hpr)
  have Q6 := Lib.hid (Q5.out.kept M6.out hqr)
  have B6 : Hid (Below w.heap.size w w6) := Lib.hid (bmod B5.out M6.out (by have := Hr.out; have := B3.out.size; omega))
  have H6 := Lib.hid (H.out.below B6.out)
  have hAr : ∀ g off, A = some ⟨g, off, none⟩ → g < w3.heap.size := fun g off e => by
    obtain ⟨g', off', e2, h3, _⟩ := HG.out.cells (by rw [HKx.out]; omega)
    rw [e] at e2; injection e2 with e2; injection e2 with e3; omega
  have G6 := Lib.hid (G5.out.later M6.out (fun g off e _ e2 => by have h1 := hAr g off e; have h2 : g = r := e2; have := Hr.out; omega))
  have hBr : ∀ g off, B = some ⟨g, off, none⟩ → g < w3.heap.size := fun g off e => by
    obtain ⟨g', off', e2, h3, _⟩ := HG2.out.cells (by omega)
    rw [e] at e2; injection e2 with e2; injection e2 with e3; omega
  have G26 := Lib.hid (G25.out.later M6.out (fun g off e _ e2 => by have h1 := hBr g off e; have h2 : g = r := e2; have := Hr.out; omega))
  rw [Hw6.out]
  have hpo := H6.out.notOwn P6.out rep_no2
  have hqo := H6.out.notOwn Q6.out (fun x h => by cases h)
  have hro := H6.out.notOwn R6.out (fun x h => by cases h)
  have i0 : Nonempty (In (fun u => Mod (OwnT b mt ml) w6 u)) := ⟨⟨w6, Mod.refl _ w6⟩⟩
  have c0 : ∀ y : In (fun u => Mod (OwnT b mt ml) w6 u), y.u.cell? ⟨q, 0, none⟩ = some (.int .i64 3) := fun y => (Q6.out.kept y.is hqo).cell 0 rfl
  have r0 : ∀ y : In (fun u => Mod (OwnT b mt ml) w6 u), y.u.cell? ⟨r, 0, none⟩ = some (.int .i64 3) := fun y => (R6.out.kept y.is hro).cell 0 rfl
  have r1 : ∀ y : In (fun u => Mod (OwnT b mt ml) w6 u), y.u.cell? ⟨r, 1, none⟩ = some (.string (str l)) := fun y => (R6.out.kept y.is hro).cell 1 rfl
  have r2 : ∀ y : In (fun u => Mod (OwnT b mt ml) w6 u), y.u.cell? ⟨r, 2, none⟩ = some (.string (str l2)) := fun y => (R6.out.kept y.is hro).cell 2 rfl
  have r3 : ∀ y : In (fun u => Mod (OwnT b mt ml) w6 u), y.u.cell? ⟨r, 3, none⟩ = some (.int .i64 off) := fun y => (R6.out.kept y.is hro).cell 3 rfl
  have r4 : ∀ y : In (fun u => Mod (OwnT b mt ml) w6 u), y.u.cell? ⟨r, 4, none⟩ = some (.int .i64 nn) := fun y => (R6.out.kept y.is hro).cell 4 rfl
  have r5 : ∀ y : In (fun u => Mod (OwnT b mt ml) w6 u), y.u.cell? ⟨r, 5, none⟩ = some (.string (str data)) := fun y => (R6.out.kept y.is hro).cell 5 rfl
  have r6 : ∀ y : In (fun u => Mod (OwnT b mt ml) w6 u), y.u.cell? ⟨r, 6, none⟩ = some (.slice A k cc) := fun y => (R6.out.kept y.is hro).cell 6 rfl
  have r7 : ∀ y : In (fun u => Mod (OwnT b mt ml) w6 u), y.u.cell? ⟨r, 7, none⟩ = some (.slice B (Y.length + 1) d) := fun y => (R6.out.kept y.is hro).cell 7 rfl
  have r8 : ∀ y : In (fun u => Mod (OwnT b mt ml) w6 u), y.u.cell? ⟨r, 8, none⟩ = some (.int .i64 th) := fun y => (R6.out.kept y.is hro).cell 8 rfl
  refine wp_region_mix (by kernel_rfl) (Cls (fun u => Mod (OwnT b mt ml) w6 u)) [(0, 0), (1, 0), (2, 0), (4, 0), (3, 1), (5, 1), (6, 2)] (by kernel_rfl) (cls (Mod.refl _ w6).drew) ?_
  repeat (refine mix0 rfl (fun K hK => ?_); go_simp; refine hK _ ?_; clear hK K)
  refine mix1 rfl (fun K hK => ?_)
  go_simp
  refine (doer_3 b _).mono ?_
  rintro e w7 ⟨rfl, rfl⟩
  refine ⟨_, rfl, hK _ _ (cls (Mod.refl _ w6).drew) ?_⟩
  clear hK K
  repeat (refine mix0 rfl (fun K hK => ?_); go_simp; refine hK _ ?_; clear hK K)
  refine mix1 rfl (fun K hK => ?_)
  go_simp
  refine (link_any (H6.out.below (Below.refl _ w6).drew) Ht.out hc hn (⟨3, l, l2, off, nn, data⟩ : Cal) B Y.length d Y s (G26.out.below (Below.refl _ w6).drew) HMd.out Hsn.out A k cc th x Ux.out hth).mono ?_
  rw [HT2.out]
  rw [HE.out]
  rintro e w8 ⟨rfl, mt1, ml1, h8, t8⟩
  have H8 := Lib.hid h8
  have T68 : Hid (Turn w6 w8 b mt ml mt1 ml1) := Lib.hid ((Turn.below b mt ml (Below.refl _ w6).drew).trans t8)
  clear h8 t8
  refine ⟨_, rfl, hK _ _ (cls T68.out.mod) ?_⟩
  clear hK K
  have P8 := Lib.hid (P6.out.kept T68.out.mod hpo)
  have T8 : Hid (Turn w w8 b mt ml mt1 ml1) := Lib.hid ((Turn.below b mt ml B6.out).trans T68.out)
  clear c0 r0 r1 r2 r3 r4 r5 r6 r7 r8
  have f0 := P8.out.free 0
  have f1 := P8.out.free 1
  have f2 := P8.out.free 2
  have f3 := P8.out.free 3
  have f4 := P8.out.free 4
  have f5 := P8.out.free 5
  have f6 := P8.out.free 6
  have z0 := P8.out.cell 0 rfl
  have z1 := P8.out.cell 1 rfl
  have z2 := P8.out.cell 2 rfl
  have z3 := P8.out.cell 3 rfl
  have z4 := P8.out.cell 4 rfl
  have z5 := P8.out.cell 5 rfl
  have z6 := P8.out.cell 6 rfl
  refine mix2 rfl (fun K hK => ?_)
  go_simp
  refine hK _ _ ?_
  clear hK K f0 f1 f2 f3 f4 f5 f6 z0 z1 z2 z3 z4 z5 z6
  refine mixEnd ?_
  have RZ := Lib.hid (setR_box P8.out (repE E))
  have HZ := Lib.hid (H8.out.box Hne.out (setR_mod w8 p (repE E)) P8.out rep_no2 rep_nohe)
  have TZ := Lib.hid (T8.out.fresh (setR_mod w8 p (repE E)) (by have := Hp.out; omega))
  obtain ⟨wz, Hwz⟩ : ∃ u, Hid (setR w8 p (repE E) = u) := ⟨_, Lib.hid rfl⟩
  rw [Hwz.out] at RZ HZ TZ
  rw [show ((((((w8.setCell ⟨p, 0, none⟩ (.int .i64 E)).setCell ⟨p, 1, none⟩ (.string (str []))).setCell ⟨p, 2, none⟩ (.slice none 0 0)).setCell ⟨p, 3, none⟩ (.int .i64 0)).setCell ⟨p, 4, none⟩ (.int .i64 0)).setCell ⟨p, 5, none⟩ (.int .i64 0)).setCell ⟨p, 6, none⟩ (.int .i64 0) = wz from Hwz.out]
  go_wp2
  have s0 := RZ.out.cell 0 rfl
  have s1 := RZ.out.cell 1 rfl
  have s2 := RZ.out.cell 2 rfl
  have s3 := RZ.out.cell 3 rfl
  have s4 := RZ.out.cell 4 rfl
  have s5 := RZ.out.cell 5 rfl
  have s6 := RZ.out.cell 6 rfl
  exact bodyPost_ret (v := repV (repE E)) (by simp [results, Tryz.results8, go_sem, s0, s1, s2, s3, s4, s5, s6]) rfl ⟨rfl, mt1, ml1, HZ.out, TZ.out⟩
set_option maxRecDepth 100000 in
set_option maxHeartbeats 8000000 in
theorem do_12 {c : Nat} (h : IsT w b mt ml n T) (ht : TokC T c) (_hc : c + 3 ≤ 1000000) (_hn : n + 10 < 100000000) (hm : Mx w) (off nn : Int) (data : List UInt8) (pth dst : List UInt8) :
    Calls Tryz.prog 8 #[.pointer (some ⟨b, 0, none⟩), calV ⟨12, pth, dst, off, nn, data⟩] w fun e w' => e = .returned (repV (⟨0, [], .slice none 0 0, 0, 0, 0, T.free⟩)) ∧ ∃ mt' ml', IsT w' b mt' ml' (n + 2) T ∧ Turn w w' b mt ml mt' ml' := by
  have H := Lib.hid h
  have Ht := Lib.hid ht
  have HA := Lib.hid (fun (u : World) (hu : Mx u) => ask_12 off nn data pth dst u hu)
  obtain ⟨T2, HT2⟩ : ∃ r, Hid (T = r) := ⟨_, Lib.hid rfl⟩
  have Hne : Hid (∀ p l, T.ls p = some l → l ≠ []) := Lib.hid ht.ne
  obtain ⟨F, HF⟩ : ∃ r, Hid (T.free = r) := ⟨_, Lib.hid rfl⟩
  rw [HF.out]
  clear h ht 
  go_enter Tryz.func8, Tryz.ntmps8
  go_upto_region 1 with (fail)
  obtain ⟨w1, Hw1⟩ : ∃ u, Hid (w.alloc (.cells #[.int .i64 12, .string (str pth), .string (str dst), .int .i64 off, .int .i64 nn, .string (str data)] 32) = u) := ⟨_, Lib.hid rfl⟩
  obtain ⟨w2, Hw2⟩ : ∃ u, Hid (w1.alloc (.cells rep0 29) = u) := ⟨_, Lib.hid rfl⟩
  obtain ⟨q, Hq⟩ : ∃ u, Hid (w.heap.size = u) := ⟨_, Lib.hid rfl⟩
  obtain ⟨p, Hp⟩ : ∃ u, Hid (w.heap.size + 1 = u) := ⟨_, Lib.hid rfl⟩
  have e1 : w1.heap.size = p := by rw [← Hw1.out, ← Hp.out]; simp
  have b1 : Below w.heap.size w w1 := by rw [← Hw1.out]; exact balloc (Below.refl _ _) _
  have b2 : Below w1.heap.size w1 w2 := by rw [← Hw2.out]; exact balloc (Below.refl _ _) _
  have Q2 : Hid (BoxC w2 q #[.int .i64 12, .string (str pth), .string (str dst), .int .i64 off, .int .i64 nn, .string (str data)] 32) := Lib.hid (by
    have h : BoxC w1 q #[.int .i64 12, .string (str pth), .string (str dst), .int .i64 off, .int .i64 nn, .string (str data)] 32 := by rw [← Hw1.out, ← Hq.out]; exact BoxC.new w _ _
    exact h.below b2)
  have P2 : Hid (BoxC w2 p rep0 29) := Lib.hid (by rw [← Hw2.out, ← e1]; exact BoxC.new w1 _ _)
  have B2 : Hid (Below w.heap.size w w2) := Lib.hid (bnext b1 b2)
  clear b1 b2 e1
  rw [Hw1.out, Hw2.out, Hp.out, Hq.out]
  have c0 := Q2.out.cell 0 rfl
  have c1 := Q2.out.cell 1 rfl
  have c2 := Q2.out.cell 2 rfl
  have c3 := Q2.out.cell 3 rfl
  have c4 := Q2.out.cell 4 rfl
  have c5 := Q2.out.cell 5 rfl
  go_wp2_with fail
  clear c0 c1 c2 c3 c4 c5
  refine (HA.out w2 (hm.below B2.out)).mono ?_
  rintro e w3 ⟨rfl, hb⟩
  have B3 := Lib.hid (bnext B2.out hb)
  have Q3 := Lib.hid (Q2.out.below hb)
  have P3 := Lib.hid (P2.out.below hb)
  clear hb
  go_upto_region 4 with (fail)
  obtain ⟨w4, Hw4⟩ : ∃ u, Hid (w3.alloc (.cells #[.int .i64 12, .string (str pth), .string (str dst), .int .i64 off, .int .i64 nn, .string (str data), .slice none 0 0, .slice none 0 0, .int .i64 0] 49) = u) := ⟨_, Lib.hid rfl⟩
  obtain ⟨r, Hr⟩ : ∃ u, Hid (w3.heap.size = u) := ⟨_, Lib.hid rfl⟩
  have R4 : Hid (BoxC w4 r #[.int .i64 12, .string (str pth), .string (str dst), .int .i64 off, .int .i64 nn, .string (str data), .slice none 0 0, .slice none 0 0, .int .i64 0] 49) := Lib.hid (by rw [← Hw4.out, ← Hr.out]; exact BoxC.new w3 _ _)
  have b4 : Below w3.heap.size w3 w4 := by rw [← Hw4.out]; exact balloc (Below.refl _ _) _
  have B4 := Lib.hid (bnext B3.out b4)
  have Q4 := Lib.hid (Q3.out.below b4)
  have P4 := Lib.hid (P3.out.below b4)
  have C4 : Hid (Below w3.heap.size w3 w4) := Lib.hid b4
  have H4 := Lib.hid (H.out.below B4.out)
  clear b4
  rw [Hw4.out, Hr.out]
  have c0 := Q4.out.cell 0 rfl
  have G4 : Hid (IsG w4 1 encT none 0 ([] : List (List UInt8))) := Lib.hid ⟨rfl, Nat.zero_le _, fun h => absurd h (Nat.lt_irrefl _)⟩
  have r6 := R4.out.cell 6 rfl
  go_wp2_with fail
  clear c0 r6
  refine (walk_any H4.out Ht.out.tok none 0 0 [] G4.out (fun x hx => by cases hx)).mono ?_
  rw [show T.walkP 0 [] = (0, 0) from rfl]
  rintro e w5 ⟨rfl, hb⟩
  have B5 := Lib.hid (bnext B4.out hb)
  have Q5 := Lib.hid (Q4.out.below hb)
  have P5 := Lib.hid (P4.out.below hb)
  have R5 := Lib.hid (R4.out.below hb)
  have G5 := Lib.hid (G4.out.below hb)
  have H5 := Lib.hid (H4.out.below hb)
  clear hb
  have r8 := R5.out.cell 8 rfl
  have rf := R5.out.free 8
  go_upto_region 8 with (fail)
  clear r8 rf
  have hpr : p ≠ r := by have := P3.out.lt; have := Hr.out; omega
  have hqr : q ≠ r := by have := Q3.out.lt; have := Hr.out; omega
  obtain ⟨w6, Hw6⟩ : ∃ u, Hid (w5.setCell ⟨r, 8, none⟩ (.int .i64 0) = u) := ⟨_, Lib.hid rfl⟩
  have M6 : Hid (Mod (· = r) w5 w6) := Lib.hid (by rw [← Hw6.out]; exact (Mod.refl _ w5).set1 _)
  have R6 : Hid (BoxC w6 r #[.int .i64 12, .string (str pth), .string (str dst), .int .i64 off, .int .i64 nn, .string (str data), .slice none 0 0, .slice none 0 0, .int .i64 0] 49) := Lib.hid (by rw [← Hw6.out]; exact R5.out.put 8 (.int .i64 0))
  have P6 := Lib.hid (P5.out.kept M6.out hpr)
  have Q6 := Lib.hid (Q5.out.kept M6.out hqr)
  have B6 : Hid (Below w.heap.size w w6) := Lib.hid (bmod B5.out M6.out (by have := Hr.out; have := B3.out.size; omega))
  have H6 := Lib.hid (H.out.below B6.out)
  rw [Hw6.out]
  have hpo := H6.out.notOwn P6.out rep_no2
  have hqo := H6.out.notOwn Q6.out (fun x h => by cases h)
  have hro := H6.out.notOwn R6.out (fun x h => by cases h)
  have i0 : Nonempty (In (fun u => Mod (OwnT b mt ml) w6 u)) := ⟨⟨w6, Mod.refl _ w6⟩⟩
  have c0 : ∀ y : In (fun u => Mod (OwnT b mt ml) w6 u), y.u.cell? ⟨q, 0, none⟩ = some (.int .i64 12) := fun y => (Q6.out.kept y.is hqo).cell 0 rfl
  have r0 : ∀ y : In (fun u => Mod (OwnT b mt ml) w6 u), y.u.cell? ⟨r, 0, none⟩ = some (.int .i64 12) := fun y => (R6.out.kept y.is hro).cell 0 rfl
  have r1 : ∀ y : In (fun u => Mod (OwnT b mt ml) w6 u), y.u.cell? ⟨r, 1, none⟩ = some (.string (str pth)) := fun y => (R6.out.kept y.is hro).cell 1 rfl
  have r2 : ∀ y : In (fun u => Mod (OwnT b mt ml) w6 u), y.u.cell? ⟨r, 2, none⟩ = some (.string (str dst)) := fun y => (R6.out.kept y.is hro).cell 2 rfl
  have r3 : ∀ y : In (fun u => Mod (OwnT b mt ml) w6 u), y.u.cell? ⟨r, 3, none⟩ = some (.int .i64 off) := fun y => (R6.out.kept y.is hro).cell 3 rfl
  have r4 : ∀ y : In (fun u => Mod (OwnT b mt ml) w6 u), y.u.cell? ⟨r, 4, none⟩ = some (.int .i64 nn) := fun y => (R6.out.kept y.is hro).cell 4 rfl
  have r5 : ∀ y : In (fun u => Mod (OwnT b mt ml) w6 u), y.u.cell? ⟨r, 5, none⟩ = some (.string (str data)) := fun y => (R6.out.kept y.is hro).cell 5 rfl
  have r6 : ∀ y : In (fun u => Mod (OwnT b mt ml) w6 u), y.u.cell? ⟨r, 6, none⟩ = some (.slice none 0 0) := fun y => (R6.out.kept y.is hro).cell 6 rfl
  have r7 : ∀ y : In (fun u => Mod (OwnT b mt ml) w6 u), y.u.cell? ⟨r, 7, none⟩ = some (.slice none 0 0) := fun y => (R6.out.kept y.is hro).cell 7 rfl
  have r8 : ∀ y : In (fun u => Mod (OwnT b mt ml) w6 u), y.u.cell? ⟨r, 8, none⟩ = some (.int .i64 0) := fun y => (R6.out.kept y.is hro).cell 8 rfl
  refine wp_region_mix (by kernel_rfl) (Cls (fun u => Mod (OwnT b mt ml) w6 u)) [(0, 0), (1, 0), (2, 0), (4, 0), (3, 1), (5, 1), (6, 2)] (by kernel_rfl) (cls (Mod.refl _ w6).drew) ?_
  repeat (refine mix0 rfl (fun K hK => ?_); go_simp; refine hK _ ?_; clear hK K)
  refine mix1 rfl (fun K hK => ?_)
  go_simp
  refine (doer_12 b _).mono ?_
  rintro e w7 ⟨rfl, rfl⟩
  refine ⟨_, rfl, hK _ _ (cls (Mod.refl _ w6).drew) ?_⟩
  clear hK K
  repeat (refine mix0 rfl (fun K hK => ?_); go_simp; refine hK _ ?_; clear hK K)
  refine mix1 rfl (fun K hK => ?_)
  go_simp
  refine (statfs_any (H6.out.below (Below.refl _ w6).drew) Hne.out (⟨12, pth, dst, off, nn, data⟩ : Cal) none none 0 0 0 0 0).mono ?_
  rw [HF.out]
  rintro e w8 ⟨rfl, h8, t8⟩
  have H8 := Lib.hid (h8.more (show n ≤ n + 2 by omega))
  have T68 : Hid (Turn w6 w8 b mt ml mt ml) := Lib.hid ((Turn.below b mt ml (Below.refl _ w6).drew).trans (Turn.below b mt ml t8))
  clear h8 t8
  refine ⟨_, rfl, hK _ _ (cls T68.out.mod) ?_⟩
  clear hK K
  have P8 := Lib.hid (P6.out.kept T68.out.mod hpo)
  have T8 : Hid (Turn w w8 b mt ml mt ml) := Lib.hid ((Turn.below b mt ml B6.out).trans T68.out)
  clear c0 r0 r1 r2 r3 r4 r5 r6 r7 r8
  have f0 := P8.out.free 0
  have f1 := P8.out.free 1
  have f2 := P8.out.free 2
  have f3 := P8.out.free 3
  have f4 := P8.out.free 4
  have f5 := P8.out.free 5
  have f6 := P8.out.free 6
  have z0 := P8.out.cell 0 rfl
  have z1 := P8.out.cell 1 rfl
  have z2 := P8.out.cell 2 rfl
  have z3 := P8.out.cell 3 rfl
  have z4 := P8.out.cell 4 rfl
  have z5 := P8.out.cell 5 rfl
  have z6 := P8.out.cell 6 rfl
  refine mix2 rfl (fun K hK => ?_)
  go_simp
  refine hK _ _ ?_
  clear hK K f0 f1 f2 f3 f4 f5 f6 z0 z1 z2 z3 z4 z5 z6
  refine mixEnd ?_
  have RZ := Lib.hid (setR_box P8.out (⟨0, [], .slice none 0 0, 0, 0, 0, F⟩ : Rep))
  have HZ := Lib.hid (H8.out.box Hne.out (setR_mod w8 p (⟨0, [], .slice none 0 0, 0, 0, 0, F⟩ : Rep)) P8.out rep_no2 rep_nohe)
  have TZ := Lib.hid (T8.out.fresh (setR_mod w8 p (⟨0, [], .slice none 0 0, 0, 0, 0, F⟩ : Rep)) (by have := Hp.out; omega))
  obtain ⟨wz, Hwz⟩ : ∃ u, Hid (setR w8 p (⟨0, [], .slice none 0 0, 0, 0, 0, F⟩ : Rep) = u) := ⟨_, Lib.hid rfl⟩
  rw [Hwz.out] at RZ HZ TZ
  rw [show ((((((w8.setCell ⟨p, 0, none⟩ (.int .i64 0)).setCell ⟨p, 1, none⟩ (.string (str []))).setCell ⟨p, 2, none⟩ (.slice none 0 0)).setCell ⟨p, 3, none⟩ (.int .i64 0)).setCell ⟨p, 4, none⟩ (.int .i64 0)).setCell ⟨p, 5, none⟩ (.int .i64 0)).setCell ⟨p, 6, none⟩ (.int .i64 F) = wz from Hwz.out]
  go_wp2
  have s0 := RZ.out.cell 0 rfl
  have s1 := RZ.out.cell 1 rfl
  have s2 := RZ.out.cell 2 rfl
  have s3 := RZ.out.cell 3 rfl
  have s4 := RZ.out.cell 4 rfl
  have s5 := RZ.out.cell 5 rfl
  have s6 := RZ.out.cell 6 rfl
  exact bodyPost_ret (v := repV (⟨0, [], .slice none 0 0, 0, 0, 0, F⟩ : Rep)) (by simp [results, Tryz.results8, go_sem, s0, s1, s2, s3, s4, s5, s6]) rfl ⟨rfl, mt, ml, HZ.out, TZ.out⟩
set_option maxRecDepth 100000 in
set_option maxHeartbeats 8000000 in
theorem do_10 {c : Nat} (h : IsT w b mt ml n T) (ht : TokC T c) (_hc : c + 3 ≤ 1000000) (_hn : n + 10 < 100000000) (hm : Mx w) (off nn : Int) (data : List UInt8) (dst : List UInt8) (X : List (List UInt8)) (hX : PathOk X) (hl : (pathOf X).length ≤ 1000000) (hle : 0 ≤ X.length) (th : Int) (hwk : T.walkP 0 X = (th, 0)) (x : Thg) (hx : T.th th = some x) (hth : 1 ≤ th ∧ th ≤ T.last) (hk1 : x.1 = 1) :
    Calls Tryz.prog 8 #[.pointer (some ⟨b, 0, none⟩), calV ⟨10, pathOf X, dst, off, nn, data⟩] w fun e w' => e = .returned (repV (⟨0, [], .slice none 0 0, 1, x.2.1, (x.2.2.length : Int), 0⟩)) ∧ ∃ mt' ml', IsT w' b mt' ml' (n + 2) T ∧ Turn w w' b mt ml mt' ml' := by
  have H := Lib.hid h
  have Ht := Lib.hid ht
  have HA := Lib.hid (fun (u : World) (hu : Mx u) => ask_10 X hX hl hle off nn data dst u hu)
  have Hw := Lib.hid hwk
  have Hsx : Hid (∀ x ∈ X, x.length ≤ 1000) := Lib.hid (fun x hx => by have := name_some (hX.a x hx); omega)
  obtain ⟨l, Hl⟩ : ∃ r, Hid (pathOf X = r) := ⟨_, Lib.hid rfl⟩
  obtain ⟨T2, HT2⟩ : ∃ r, Hid (T = r) := ⟨_, Lib.hid rfl⟩
  have Hne : Hid (∀ p l, T.ls p = some l → l ≠ []) := Lib.hid ht.ne
  rw [Hl.out]
  simp only [Hl.out] at HA
  have Uhk1 := Lib.hid hk1
  have Ux := Lib.hid hx
  have hxb := ht.th th x hx
  have hlast := ht.tok.last
  have hwf : (Lit.int .i64 th).wf = true := wf_of (by omega)
  clear h ht hk1 hx hwk
  go_enter Tryz.func8, Tryz.ntmps8
  go_upto_region 1 with (fail)
  obtain ⟨w1, Hw1⟩ : ∃ u, Hid (w.alloc (.cells #[.int .i64 10, .string (str l), .string (str dst), .int .i64 off, .int .i64 nn, .string (str data)] 32) = u) := ⟨_, Lib.hid rfl⟩
  obtain ⟨w2, Hw2⟩ : ∃ u, Hid (w1.alloc (.cells rep0 29) = u) := ⟨_, Lib.hid rfl⟩
  obtain ⟨q, Hq⟩ : ∃ u, Hid (w.heap.size = u) := ⟨_, Lib.hid rfl⟩
  obtain ⟨p, Hp⟩ : ∃ u, Hid (w.heap.size + 1 = u) := ⟨_, Lib.hid rfl⟩
  have e1 : w1.heap.size = p := by rw [← Hw1.out, ← Hp.out]; simp
  have b1 : Below w.heap.size w w1 := by rw [← Hw1.out]; exact balloc (Below.refl _ _) _
  have b2 : Below w1.heap.size w1 w2 := by rw [← Hw2.out]; exact balloc (Below.refl _ _) _
  have Q2 : Hid (BoxC w2 q #[.int .i64 10, .string (str l), .string (str dst), .int .i64 off, .int .i64 nn, .string (str data)] 32) := Lib.hid (by
    have h : BoxC w1 q #[.int .i64 10, .string (str l), .string (str dst), .int .i64 off, .int .i64 nn, .string (str data)] 32 := by rw [← Hw1.out, ← Hq.out]; exact BoxC.new w _ _
    exact h.below b2)
  have P2 : Hid (BoxC w2 p rep0 29) := Lib.hid (by rw [← Hw2.out, ← e1]; exact BoxC.new w1 _ _)
  have B2 : Hid (Below w.heap.size w w2) := Lib.hid (bnext b1 b2)
  clear b1 b2 e1
  rw [Hw1.out, Hw2.out, Hp.out, Hq.out]
  have c0 := Q2.out.cell 0 rfl
  have c1 := Q2.out.cell 1 rfl
  have c2 := Q2.out.cell 2 rfl
  have c3 := Q2.out.cell 3 rfl
  have c4 := Q2.out.cell 4 rfl
  have c5 := Q2.out.cell 5 rfl
  go_wp2_with fail
  clear c0 c1 c2 c3 c4 c5
  refine (HA.out w2 (hm.below B2.out)).mono ?_
  rintro e w3 ⟨A, k, cc, rfl, hkX, hkc, hG, hnw, hb⟩
  have B3 := Lib.hid (bnext B2.out hb)
  have Q3 := Lib.hid (Q2.out.below hb)
  have P3 := Lib.hid (P2.out.below hb)
  have HG := Lib.hid hG
  have HKc := Lib.hid hkc
  have HN : Hid (∀ g off, A = some ⟨g, off, none⟩ → w2.heap.size ≤ g) := Lib.hid hnw
  have HKx := Lib.hid hkX
  clear hkX
  clear hG hkc hnw
  clear hb
  go_upto_region 4 with (fail)
  obtain ⟨w4, Hw4⟩ : ∃ u, Hid (w3.alloc (.cells #[.int .i64 10, .string (str l), .string (str dst), .int .i64 off, .int .i64 nn, .string (str data), .slice A k cc, .slice none 0 0, .int .i64 0] 49) = u) := ⟨_, Lib.hid rfl⟩
  obtain ⟨r, Hr⟩ : ∃ u, Hid (w3.heap.size = u) := ⟨_, Lib.hid rfl⟩
  have R4 : Hid (BoxC w4 r #[.int .i64 10, .string (str l), .string (str dst), .int .i64 off, .int .i64 nn, .string (str data), .slice A k cc, .slice none 0 0, .int .i64 0] 49) := Lib.hid (by rw [← Hw4.out, ← Hr.out]; exact BoxC.new w3 _ _)
  have b4 : Below w3.heap.size w3 w4 := by rw [← Hw4.out]; exact balloc (Below.refl _ _) _
  have B4 := Lib.hid (bnext B3.out b4)
  have Q4 := Lib.hid (Q3.out.below b4)
  have P4 := Lib.hid (P3.out.below b4)
  have C4 : Hid (Below w3.heap.size w3 w4) := Lib.hid b4
  have H4 := Lib.hid (H.out.below B4.out)
  clear b4
  rw [Hw4.out, Hr.out]
  have c0 := Q4.out.cell 0 rfl
  have G4 := Lib.hid (HG.out.below C4.out)
  have r6 := R4.out.cell 6 rfl
  go_wp2_with fail
  clear c0 r6
  refine (walk_any H4.out Ht.out.tok A k cc X G4.out Hsx.out).mono ?_
  rw [Hw.out]
  rintro e w5 ⟨rfl, hb⟩
  have B5 := Lib.hid (bnext B4.out hb)
  have Q5 := Lib.hid (Q4.out.below hb)
  have P5 := Lib.hid (P4.out.below hb)
  have R5 := Lib.hid (R4.out.below hb)
  have G5 := Lib.hid (G4.out.below hb)
  have H5 := Lib.hid (H4.out.below hb)
  clear hb
  have r8 := R5.out.cell 8 rfl
  have rf := R5.out.free 8
  go_upto_region 8 with (fail)
  clear r8 rf
  have hpr : p ≠ r := by have := P3.out.lt; have := Hr.out; omega
  have hqr : q ≠ r := by have := Q3.out.lt; have := Hr.out; omega
  obtain ⟨w6, Hw6⟩ : ∃ u, Hid (w5.setCell ⟨r, 8, none⟩ (.int .i64 th) = u) := ⟨_, Lib.hid rfl⟩
  have M6 : Hid (Mod (· = r) w5 w6) := Lib.hid (by rw [← Hw6.out]; exact (Mod.refl _ w5).set1 _)
  have R6 : Hid (BoxC w6 r #[.int .i64 10, .string (str l), .string (str dst), .int .i64 off, .int .i64 nn, .string (str data), .slice A k cc, .slice none 0 0, .int .i64 th] 49) := Lib.hid (by rw [← Hw6.out]; exact R5.out.put 8 (.int .i64 th))
  have P6 := Lib.hid (P5.out.kept M6.out hpr)
  have Q6 := Lib.hid (Q5.out.kept M6.out hqr)
  have B6 : Hid (Below w.heap.size w w6) := Lib.hid (bmod B5.out M6.out (by have := Hr.out; have := B3.out.size; omega))
  have H6 := Lib.hid (H.out.below B6.out)
  rw [Hw6.out]
  have hpo := H6.out.notOwn P6.out rep_no2
  have hqo := H6.out.notOwn Q6.out (fun x h => by cases h)
  have hro := H6.out.notOwn R6.out (fun x h => by cases h)
  have i0 : Nonempty (In (fun u => Mod (OwnT b mt ml) w6 u)) := ⟨⟨w6, Mod.refl _ w6⟩⟩
  have c0 : ∀ y : In (fun u => Mod (OwnT b mt ml) w6 u), y.u.cell? ⟨q, 0, none⟩ = some (.int .i64 10) := fun y => (Q6.out.kept y.is hqo).cell 0 rfl
  have r0 : ∀ y : In (fun u => Mod (OwnT b mt ml) w6 u), y.u.cell? ⟨r, 0, none⟩ = some (.int .i64 10) := fun y => (R6.out.kept y.is hro).cell 0 rfl
  have r1 : ∀ y : In (fun u => Mod (OwnT b mt ml) w6 u), y.u.cell? ⟨r, 1, none⟩ = some (.string (str l)) := fun y => (R6.out.kept y.is hro).cell 1 rfl
  have r2 : ∀ y : In (fun u => Mod (OwnT b mt ml) w6 u), y.u.cell? ⟨r, 2, none⟩ = some (.string (str dst)) := fun y => (R6.out.kept y.is hro).cell 2 rfl
  have r3 : ∀ y : In (fun u => Mod (OwnT b mt ml) w6 u), y.u.cell? ⟨r, 3, none⟩ = some (.int .i64 off) := fun y => (R6.out.kept y.is hro).cell 3 rfl
  have r4 : ∀ y : In (fun u => Mod (OwnT b mt ml) w6 u), y.u.cell? ⟨r, 4, none⟩ = some (.int .i64 nn) := fun y => (R6.out.kept y.is hro).cell 4 rfl
  have r5 : ∀ y : In (fun u => Mod (OwnT b mt ml) w6 u), y.u.cell? ⟨r, 5, none⟩ = some (.string (str data)) := fun y => (R6.out.kept y.is hro).cell 5 rfl
  have r6 : ∀ y : In (fun u => Mod (OwnT b mt ml) w6 u), y.u.cell? ⟨r, 6, none⟩ = some (.slice A k cc) := fun y => (R6.out.kept y.is hro).cell 6 rfl
  have r7 : ∀ y : In (fun u => Mod (OwnT b mt ml) w6 u), y.u.cell? ⟨r, 7, none⟩ = some (.slice none 0 0) := fun y => (R6.out.kept y.is hro).cell 7 rfl
  have r8 : ∀ y : In (fun u => Mod (OwnT b mt ml) w6 u), y.u.cell? ⟨r, 8, none⟩ = some (.int .i64 th) := fun y => (R6.out.kept y.is hro).cell 8 rfl
  refine wp_region_mix (by kernel_rfl) (Cls (fun u => Mod (OwnT b mt ml) w6 u)) [(0, 0), (1, 0), (2, 0), (4, 0), (3, 1), (5, 1), (6, 2)] (by kernel_rfl) (cls (Mod.refl _ w6).drew) ?_
  repeat (refine mix0 rfl (fun K hK => ?_); go_simp; refine hK _ ?_; clear hK K)
  refine mix1 rfl (fun K hK => ?_)
  go_simp
  refine (doer_10 b _).mono ?_
  rintro e w7 ⟨rfl, rfl⟩
  refine ⟨_, rfl, hK _ _ (cls (Mod.refl _ w6).drew) ?_⟩
  clear hK K
  repeat (refine mix0 rfl (fun K hK => ?_); go_simp; refine hK _ ?_; clear hK K)
  refine mix1 rfl (fun K hK => ?_)
  go_simp
  refine (stat_file (H6.out.below (Below.refl _ w6).drew) Hne.out (⟨10, l, dst, off, nn, data⟩ : Cal) A none k cc 0 0 th hwf x (by rw [Ux.out]; rfl) Uhk1.out (by omega)).mono ?_
  rintro e w8 ⟨rfl, h8, t8⟩
  have H8 := Lib.hid (h8.more (show n ≤ n + 2 by omega))
  have T68 : Hid (Turn w6 w8 b mt ml mt ml) := Lib.hid ((Turn.below b mt ml (Below.refl _ w6).drew).trans (Turn.below b mt ml t8))
  clear h8 t8
  refine ⟨_, rfl, hK _ _ (cls T68.out.mod) ?_⟩
  clear hK K
  have P8 := Lib.hid (P6.out.kept T68.out.mod hpo)
  have T8 : Hid (Turn w w8 b mt ml mt ml) := Lib.hid ((Turn.below b mt ml B6.out).trans T68.out)
  clear c0 r0 r1 r2 r3 r4 r5 r6 r7 r8
  have f0 := P8.out.free 0
  have f1 := P8.out.free 1
  have f2 := P8.out.free 2
  have f3 := P8.out.free 3
  have f4 := P8.out.free 4
  have f5 := P8.out.free 5
  have f6 := P8.out.free 6
  have z0 := P8.out.cell 0 rfl
  have z1 := P8.out.cell 1 rfl
  have z2 := P8.out.cell 2 rfl
  have z3 := P8.out.cell 3 rfl
  have z4 := P8.out.cell 4 rfl
  have z5 := P8.out.cell 5 rfl
  have z6 := P8.out.cell 6 rfl
  refine mix2 rfl (fun K hK => ?_)
  go_simp
  refine hK _ _ ?_
  clear hK K f0 f1 f2 f3 f4 f5 f6 z0 z1 z2 z3 z4 z5 z6
  refine mixEnd ?_
  have RZ := Lib.hid (setR_box P8.out (⟨0, [], .slice none 0 0, 1, x.2.1, (x.2.2.length : Int), 0⟩ : Rep))
  have HZ := Lib.hid (H8.out.box Hne.out (setR_mod w8 p (⟨0, [], .slice none 0 0, 1, x.2.1, (x.2.2.length : Int), 0⟩ : Rep)) P8.out rep_no2 rep_nohe)
  have TZ := Lib.hid (T8.out.fresh (setR_mod w8 p (⟨0, [], .slice none 0 0, 1, x.2.1, (x.2.2.length : Int), 0⟩ : Rep)) (by have := Hp.out; omega))
  obtain ⟨wz, Hwz⟩ : ∃ u, Hid (setR w8 p (⟨0, [], .slice none 0 0, 1, x.2.1, (x.2.2.length : Int), 0⟩ : Rep) = u) := ⟨_, Lib.hid rfl⟩
  rw [Hwz.out] at RZ HZ TZ
  rw [show ((((((w8.setCell ⟨p, 0, none⟩ (.int .i64 0)).setCell ⟨p, 1, none⟩ (.string (str []))).setCell ⟨p, 2, none⟩ (.slice none 0 0)).setCell ⟨p, 3, none⟩ (.int .i64 1)).setCell ⟨p, 4, none⟩ (.int .i64 x.2.1)).setCell ⟨p, 5, none⟩ (.int .i64 (x.2.2.length : Int))).setCell ⟨p, 6, none⟩ (.int .i64 0) = wz from Hwz.out]
  go_wp2
  have s0 := RZ.out.cell 0 rfl
  have s1 := RZ.out.cell 1 rfl
  have s2 := RZ.out.cell 2 rfl
  have s3 := RZ.out.cell 3 rfl
  have s4 := RZ.out.cell 4 rfl
  have s5 := RZ.out.cell 5 rfl
  have s6 := RZ.out.cell 6 rfl
  exact bodyPost_ret (v := repV (⟨0, [], .slice none 0 0, 1, x.2.1, (x.2.2.length : Int), 0⟩ : Rep)) (by simp [results, Tryz.results8, go_sem, s0, s1, s2, s3, s4, s5, s6]) rfl ⟨rfl, mt, ml, HZ.out, TZ.out⟩
end
end Go.Proofs.YtiomhdanmcnaeaaGreatDoor
