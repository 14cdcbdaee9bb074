/- Bytes are written, cut, read; what is free is told. -/
import Derived.Test.YtiomhdanmcnaeaaGreatDoorUe16
namespace Go.Proofs.YtiomhdanmcnaeaaGreatDoor
open Go.RowKit

section
variable {w : World} {b n : Nat} {mt ml : Option Nat} {T : Tr}
theorem cut1_any (g : Nat) (l : List UInt8) (sz : Nat) (u : World) (h : Bytes u g l) :
    Calls Tryz.prog 60 (#[.slice (some ⟨g, 0, none⟩) sz sz] ++ #[]) u fun e u' => e = .returned (.tuple #[]) ∧ Bytes u' g (id l) ∧ Mod (· = g) u u' := by
  rw [Array.append_empty]
  go_enter Tryz.func60, Tryz.ntmps60
  go_wp2
  exact bodyPost_end (results_none rfl _ _ _) rfl ⟨rfl, h, Mod.refl _ u⟩
set_option maxRecDepth 100000 in
set_option maxHeartbeats 8000000 in
theorem truncate_any {c : Nat} (h : IsT w b mt ml n T) (ht : TokC T c) (hc : c + 3 ≤ 1000000) (hn : n + 10 < 100000000) (cl : Cal) (A B : Option Addr) (k cc m d : Nat) (th : Int) (hwf : (Lit.int .i64 th).wf = true) (x : Thg) (hg : (T.th th).getD th0 = x) (hx : T.kind th = 2 ∨ T.th th = some x) (sz : Nat) (hsz : sz ≤ 6144) (hN : cl.n = (sz : Int)) :
    Calls Tryz.prog 35 #[.pointer (some ⟨b, 0, none⟩), askV cl (.slice A k cc) (.slice B m d) th] w fun e w' => e = .returned (repV (repE (T.changeE th sz))) ∧ ∃ mt', IsT w' b mt' ml (n + 2) (if T.changeE th sz = 0 then T.changeT th (sized x.2.2 sz) else T) ∧ Turn w w' b mt ml mt' ml := by
  have H := Lib.hid h
  have Ht := Lib.hid ht
  have Hne : Hid (∀ p l, (if T.changeE th sz = 0 then T.changeT th (sized x.2.2 sz) else T).ls p = some l → l ≠ []) := Lib.hid (by
    split
    · exact ht.ne
    · exact ht.ne)
  have Hg := Lib.hid hg
  have Hx := Lib.hid hx
  have HN := Lib.hid hN
  obtain ⟨E, HE⟩ : ∃ r, Hid (T.changeE th sz = r) := ⟨_, Lib.hid rfl⟩
  obtain ⟨T2, HT2⟩ : ∃ r, Hid ((if T.changeE th sz = 0 then T.changeT th (sized x.2.2 sz) else T) = r) := ⟨_, Lib.hid rfl⟩
  rw [HT2.out] at Hne ⊢
  rw [HE.out]
  clear h ht hg hx hN
  go_enter Tryz.func35, Tryz.ntmps35
  go_upto_region 1 with (fail)
  obtain ⟨w1, Hw1⟩ : ∃ u, Hid (w.alloc (.cells (askC cl (.slice A k cc) (.slice B m d) th) 49) = u) := ⟨_, Lib.hid rfl⟩
  obtain ⟨q, Hq⟩ : ∃ u, Hid (w.heap.size = u) := ⟨_, Lib.hid rfl⟩
  have HX1 : Hid (BoxC w1 q (askC cl (.slice A k cc) (.slice B m d) th) 49) := Lib.hid (by rw [← Hw1.out, ← Hq.out]; exact BoxC.new w _ _)
  have B1 : Hid (Below w.heap.size w w1) := Lib.hid (by rw [← Hw1.out]; exact balloc (Below.refl _ _) _)
  obtain ⟨w2, Hw2⟩ : ∃ u, Hid (w1.alloc (.cells rep0 29) = u) := ⟨_, Lib.hid rfl⟩
  obtain ⟨p, Hp⟩ : ∃ u, Hid (w.heap.size + 1 = u) := ⟨_, Lib.hid rfl⟩
  have hp1 : w1.heap.size = p := by rw [← Hw1.out, ← Hp.out]; simp
  have HR2 : Hid (BoxC w2 p rep0 29) := Lib.hid (by rw [← Hw2.out, ← hp1]; exact BoxC.new w1 _ _)
  have hb2 : Below w1.heap.size w1 w2 := by rw [← Hw2.out]; exact balloc (Below.refl _ _) _
  have B2 := Lib.hid (bnext B1.out hb2)
  have X2 := Lib.hid (HX1.out.below hb2)
  clear hb2
  have H2 := Lib.hid (H.out.below B2.out)
  rw [Hw1.out, Hw2.out, Hp.out, Hq.out]
  have x4 : w2.cell? ⟨q, 4, none⟩ = some (.int .i64 (sz : Int)) := by rw [← HN.out]; exact X2.out.cell 4 rfl
  have x8 := X2.out.cell 8 rfl
  go_wp2_with fail
  clear x4 x8
  refine (change_any H2.out Ht.out hc hn th hwf x Hg.out Hx.out sz hsz 60 #[] id (fun l h => h) (fun _ _ => rfl) (fun u g l _ hb _ _ => cut1_any g l sz u hb)).mono ?_
  rw [id_eq, HT2.out, HE.out]
  rintro e w3 ⟨rfl, mt1, h3, t3⟩
  have H3 := Lib.hid h3
  have T3 : Hid (Turn w w3 b mt ml mt1 ml) := Lib.hid ((Turn.below b mt ml B2.out).trans t3)
  have R3 := Lib.hid (HR2.out.kept t3.mod (H2.out.notOwn HR2.out rep_no2))
  clear h3 t3
  have f0 := R3.out.free 0
  have f1 := R3.out.free 1
  have f2 := R3.out.free 2
  have f3 := R3.out.free 3
  have f4 := R3.out.free 4
  have f5 := R3.out.free 5
  have f6 := R3.out.free 6
  have z0 := R3.out.cell 0 rfl
  have z1 := R3.out.cell 1 rfl
  have z2 := R3.out.cell 2 rfl
  have z3 := R3.out.cell 3 rfl
  have z4 := R3.out.cell 4 rfl
  have z5 := R3.out.cell 5 rfl
  have z6 := R3.out.cell 6 rfl
  have RZ := Lib.hid (setR_box R3.out (repE E))
  have HZ := Lib.hid (H3.out.box Hne.out (setR_mod w3 p (repE E)) R3.out rep_no2 rep_nohe)
  have TZ := Lib.hid (T3.out.fresh (setR_mod w3 p (repE E)) (by have := Hp.out; omega))
  go_wp2
  obtain ⟨wz, Hwz⟩ : ∃ u, Hid (setR w3 p (repE E) = u) := ⟨_, Lib.hid rfl⟩
  rw [Hwz.out] at RZ HZ TZ
  rw [show ((((((w3.setCell ⟨p, 0, none⟩ (.int .i64 E)).setCell ⟨p, 1, none⟩ (.string (str []))).setCell ⟨p, 2, none⟩ (.slice none 0 0)).setCell ⟨p, 3, none⟩ (.int .i64 0)).setCell ⟨p, 4, none⟩ (.int .i64 0)).setCell ⟨p, 5, none⟩ (.int .i64 0)).setCell ⟨p, 6, none⟩ (.int .i64 0) = wz from Hwz.out]
  have s0 := RZ.out.cell 0 rfl
  have s1 := RZ.out.cell 1 rfl
  have s2 := RZ.out.cell 2 rfl
  have s3 := RZ.out.cell 3 rfl
  have s4 := RZ.out.cell 4 rfl
  have s5 := RZ.out.cell 5 rfl
  have s6 := RZ.out.cell 6 rfl
  exact bodyPost_ret (v := repV (repE E)) (by simp [results, Tryz.results35, go_sem, s0, s1, s2, s3, s4, s5, s6]) rfl ⟨rfl, mt1, HZ.out, TZ.out⟩
set_option maxRecDepth 100000 in
theorem put1_any (g : Nat) (l : List UInt8) (sz : Nat) (hl : l.length = sz) (u : World) (h : Bytes u g l) (q : Nat) (cl : Cal) (P Q : Value) (th : Int) (hX : BoxC u q (askC cl P Q th) 49) (at_ : Nat) (hat : cl.off = (at_ : Int)) (hsz : at_ + cl.data.length ≤ sz) (hbig : sz ≤ 100000) :
    Calls Tryz.prog 59 (#[.slice (some ⟨g, 0, none⟩) sz sz] ++ #[.pointer (some ⟨q, 0, none⟩)]) u fun e u' => e = .returned (.tuple #[]) ∧ Bytes u' g (l.take at_ ++ cl.data ++ l.drop (at_ + cl.data.length)) ∧ Mod (· = g) u u' := by
  have HX := Lib.hid hX
  have HB := Lib.hid h
  show Calls Tryz.prog 59 #[.slice (some ⟨g, 0, none⟩) sz sz, .pointer (some ⟨q, 0, none⟩)] u _
  have h1 : (at_ : Int) ≤ (sz : Int) := by omega
  clear hX h
  go_enter Tryz.func59, Tryz.ntmps59
  have x3 : ∀ y : In (Abv u), y.u.cell? ⟨q, 3, none⟩ = some (.int .i64 (at_ : Int)) := fun y => by rw [← hat]; exact (HX.out.below y.is).cell 3 rfl
  have x5 : ∀ y : In (Abv u), y.u.cell? ⟨q, 5, none⟩ = some (.string (str cl.data)) := fun y => (HX.out.below y.is).cell 5 rfl
  refine wp_region_mix (by kernel_rfl) (Cls (Abv u)) [(0, 0), (1, 0), (2, 0), (3, 0), (4, 0), (5, 0), (6, 0), (7, 0), (8, 2)] (by kernel_rfl) (cls (Below.refl _ _).drew) ?_
  repeat (refine mix0 rfl (fun K hK => ?_); go_simp; refine hK _ ?_; clear hK K)
  by_cases hsa : sz = at_
  · have hd : cl.data = [] := List.eq_nil_of_length_eq_zero (by omega)
    rw [if_pos hsa]
    have Hfin : Hid (Bytes u.drew g (l.take at_ ++ cl.data ++ l.drop (at_ + cl.data.length))) := Lib.hid (by
      rw [hd, List.append_nil, List.length_nil, Nat.add_zero, List.take_append_drop]
      exact HB.out.below (Below.refl _ _).drew)
    have hcopy := copy_str (HB.out.below (Below.refl _ u).drew) 0 cl.data (sz - at_) (sz - at_) 0 (by rw [hd]; simp) (by omega) 3
    rw [List.take_zero, show u8V [] = [] from rfl, show u.drew.setCells g 0 [] = u.drew from rfl] at hcopy
    clear hd hsa
    refine mix2 rfl (fun K hK => ?_)
    go_simp
    refine hK _ _ ?_
    clear hK K hcopy
    refine mixEnd ?_
    exact bodyPost_end (results_none rfl _ _ _) rfl ⟨rfl, Hfin.out, (Mod.refl _ u).drew⟩
  · rw [if_neg hsa]
    have hcopy := copy_str (HB.out.below (Below.refl _ u).drew) at_ cl.data (sz - at_) (sz - at_) cl.data.length (by omega) (by omega) 3
    rw [List.take_of_length_le (Nat.le_refl _)] at hcopy
    have Hfin := Lib.hid (Bytes.over cl.data (HB.out.below (Below.refl _ u).drew) at_ (by omega))
    have Hm : Hid (Mod (· = g) u (u.drew.setCells g at_ (u8V cl.data))) := Lib.hid (((Mod.refl _ u).drew).trans (setCells_modT g _ at_ _))
    clear hsa
    refine mix2 rfl (fun K hK => ?_)
    go_simp
    refine hK _ _ ?_
    clear hK K hcopy
    refine mixEnd ?_
    exact bodyPost_end (results_none rfl _ _ _) rfl ⟨rfl, Hfin.out, Hm.out⟩
set_option maxRecDepth 100000 in
set_option maxHeartbeats 8000000 in
theorem write_any {c : Nat} (h : IsT w b mt ml n T) (ht : TokC T c) (hc : c + 3 ≤ 1000000) (hn : n + 10 < 100000000) (cl : Cal) (A B : Option Addr) (k cc m d : Nat) (th : Int) (hwf : (Lit.int .i64 th).wf = true) (x : Thg) (hg : (T.th th).getD th0 = x) (hx : T.kind th = 2 ∨ T.th th = some x) (_hxl : x.2.2.length ≤ 6144) (at_ : Nat) (hat : cl.off = (at_ : Int)) (sz : Nat) (hsz : sz ≤ 6144) (hmx : max x.2.2.length (at_ + cl.data.length) = sz) :
    Calls Tryz.prog 34 #[.pointer (some ⟨b, 0, none⟩), askV cl (.slice A k cc) (.slice B m d) th] w fun e w' => e = .returned (repV (repE (T.changeE th sz))) ∧ ∃ mt', IsT w' b mt' ml (n + 2) (if T.changeE th sz = 0 then T.changeT th ((sized x.2.2 sz).take at_ ++ cl.data ++ (sized x.2.2 sz).drop (at_ + cl.data.length)) else T) ∧ Turn w w' b mt ml mt' ml := by
  have H := Lib.hid h
  have Ht := Lib.hid ht
  have Hne : Hid (∀ p l, (if T.changeE th sz = 0 then T.changeT th ((sized x.2.2 sz).take at_ ++ cl.data ++ (sized x.2.2 sz).drop (at_ + cl.data.length)) else T).ls p = some l → l ≠ []) := Lib.hid (by
    split
    · exact ht.ne
    · exact ht.ne)
  have Hg := Lib.hid hg
  have Hx := Lib.hid hx
  have HN := Lib.hid hat
  have hasz : at_ + cl.data.length ≤ sz := by omega
  have hw1 : IntKind.i64.wrap ((at_ : Int) + (cl.data.length : Int)) = (at_ : Int) + (cl.data.length : Int) := IntWalk.i64_in _ (by omega)
  have Hmx : Hid (max (x.2.2.length : Int) ((at_ : Int) + (cl.data.length : Int)) = (sz : Int)) := Lib.hid (by omega)
  obtain ⟨E, HE⟩ : ∃ r, Hid (T.changeE th sz = r) := ⟨_, Lib.hid rfl⟩
  obtain ⟨T2, HT2⟩ : ∃ r, Hid ((if T.changeE th sz = 0 then T.changeT th ((sized x.2.2 sz).take at_ ++ cl.data ++ (sized x.2.2 sz).drop (at_ + cl.data.length)) else T) = r) := ⟨_, Lib.hid rfl⟩
  rw [HT2.out] at Hne ⊢
  rw [HE.out]
  clear h ht hg hx hat hmx
  go_enter Tryz.func34, Tryz.ntmps34
  go_upto_region 1 with (fail)
  obtain ⟨w1, Hw1⟩ : ∃ u, Hid (w.alloc (.cells (askC cl (.slice A k cc) (.slice B m d) th) 49) = u) := ⟨_, Lib.hid rfl⟩
  obtain ⟨q, Hq⟩ : ∃ u, Hid (w.heap.size = u) := ⟨_, Lib.hid rfl⟩
  have HX1 : Hid (BoxC w1 q (askC cl (.slice A k cc) (.slice B m d) th) 49) := Lib.hid (by rw [← Hw1.out, ← Hq.out]; exact BoxC.new w _ _)
  have B1 : Hid (Below w.heap.size w w1) := Lib.hid (by rw [← Hw1.out]; exact balloc (Below.refl _ _) _)
  obtain ⟨w2, Hw2⟩ : ∃ u, Hid (w1.alloc (.cells rep0 29) = u) := ⟨_, Lib.hid rfl⟩
  obtain ⟨p, Hp⟩ : ∃ u, Hid (w.heap.size + 1 = u) := ⟨_, Lib.hid rfl⟩
  have hp1 : w1.heap.size = p := by rw [← Hw1.out, ← Hp.out]; simp
  have HR2 : Hid (BoxC w2 p rep0 29) := Lib.hid (by rw [← Hw2.out, ← hp1]; exact BoxC.new w1 _ _)
  have hb2 : Below w1.heap.size w1 w2 := by rw [← Hw2.out]; exact balloc (Below.refl _ _) _
  have B2 := Lib.hid (bnext B1.out hb2)
  have X2 := Lib.hid (HX1.out.below hb2)
  clear hb2
  have H2 := Lib.hid (H.out.below B2.out)
  rw [Hw1.out, Hw2.out, Hp.out, Hq.out]
  have x3 : ∀ y : In (Abv w2), y.u.cell? ⟨q, 3, none⟩ = some (.int .i64 (at_ : Int)) := fun y => by rw [← HN.out]; exact (X2.out.below y.is).cell 3 rfl
  have x5 : ∀ y : In (Abv w2), y.u.cell? ⟨q, 5, none⟩ = some (.string (str cl.data)) := fun y => (X2.out.below y.is).cell 5 rfl
  have x8 : ∀ y : In (Abv w2), y.u.cell? ⟨q, 8, none⟩ = some (.int .i64 th) := fun y => (X2.out.below y.is).cell 8 rfl
  have k2 : ∀ y : In (Abv w2), y.u.cell? ⟨b, 2, none⟩ = some (.map mt) := fun y => (H2.out.below y.is).c2
  have hf2 := thF2
  have kl : ∀ y : In (Abv w2), (Instr.lookup 38 (.map mt) (.int .i64 th) false).run Tryz.prog y.u = .ok (.agg #[.int .i64 x.1, .int .i64 x.2.1, .string (str x.2.2)]) y.u := fun y => by
    have h := (H2.out.below y.is).lookT hwf
    rw [Hg.out] at h
    exact h
  refine wp_region_mix (by kernel_rfl) (Cls (Abv w2)) [(0, 0), (1, 0), (2, 0), (3, 0), (4, 0), (5, 0), (6, 0), (7, 0), (8, 0), (9, 0), (10, 0), (11, 0), (12, 0), (13, 0), (14, 0), (15, 0), (16, 0), (17, 0), (18, 0)] (by kernel_rfl) (cls (Below.refl _ _).drew) ?_
  repeat (refine mix0 rfl (fun K hK => ?_); go_simp; refine hK _ ?_; clear hK K)
  refine mixEnd ?_
  clear x3 x5 x8 k2 kl
  rw [Hmx.out]
  obtain ⟨w3, Hw3⟩ : ∃ u, Hid (w2.drew = u) := ⟨_, Lib.hid rfl⟩
  have hb3 : Below w2.heap.size w2 w3 := by rw [← Hw3.out]; exact (Below.refl _ _).drew
  have B3 := Lib.hid (bnext B2.out hb3)
  have R3 := Lib.hid (HR2.out.below hb3)
  have X3 := Lib.hid (X2.out.below hb3)
  have H3 := Lib.hid (H2.out.below hb3)
  clear hb3
  rw [Hw3.out]
  have x8 := X3.out.cell 8 rfl
  go_wp2_with fail
  clear x8
  refine (change_any H3.out Ht.out hc hn th hwf x Hg.out Hx.out sz hsz 59 #[.pointer (some ⟨q, 0, none⟩)] (fun l => l.take at_ ++ cl.data ++ l.drop (at_ + cl.data.length)) (fun l h => by simp only [List.length_append, List.length_take, List.length_drop]; omega) (fun _ _ => rfl) (fun u g l hl hb hbl _ => put1_any g l sz hl u hb q cl (.slice A k cc) (.slice B m d) th (X3.out.below hbl) at_ HN.out hasz (by omega))).mono ?_

  rw [HT2.out, HE.out]
  rintro e w4 ⟨rfl, mt1, h3, t3⟩
  have H4 := Lib.hid h3
  have T4 : Hid (Turn w w4 b mt ml mt1 ml) := Lib.hid ((Turn.below b mt ml B3.out).trans t3)
  have R4 := Lib.hid (R3.out.kept t3.mod (H3.out.notOwn R3.out rep_no2))
  clear h3 t3
  have f0 := R4.out.free 0
  have f1 := R4.out.free 1
  have f2 := R4.out.free 2
  have f3 := R4.out.free 3
  have f4 := R4.out.free 4
  have f5 := R4.out.free 5
  have f6 := R4.out.free 6
  have z0 := R4.out.cell 0 rfl
  have z1 := R4.out.cell 1 rfl
  have z2 := R4.out.cell 2 rfl
  have z3 := R4.out.cell 3 rfl
  have z4 := R4.out.cell 4 rfl
  have z5 := R4.out.cell 5 rfl
  have z6 := R4.out.cell 6 rfl
  have RZ := Lib.hid (setR_box R4.out (repE E))
  have HZ := Lib.hid (H4.out.box Hne.out (setR_mod w4 p (repE E)) R4.out rep_no2 rep_nohe)
  have TZ := Lib.hid (T4.out.fresh (setR_mod w4 p (repE E)) (by have := Hp.out; omega))
  go_wp2
  obtain ⟨wz, Hwz⟩ : ∃ u, Hid (setR w4 p (repE E) = u) := ⟨_, Lib.hid rfl⟩
  rw [Hwz.out] at RZ HZ TZ
  rw [show ((((((w4.setCell ⟨p, 0, none⟩ (.int .i64 E)).setCell ⟨p, 1, none⟩ (.string (str []))).setCell ⟨p, 2, none⟩ (.slice none 0 0)).setCell ⟨p, 3, none⟩ (.int .i64 0)).setCell ⟨p, 4, none⟩ (.int .i64 0)).setCell ⟨p, 5, none⟩ (.int .i64 0)).setCell ⟨p, 6, none⟩ (.int .i64 0) = wz from Hwz.out]
  have s0 := RZ.out.cell 0 rfl
  have s1 := RZ.out.cell 1 rfl
  have s2 := RZ.out.cell 2 rfl
  have s3 := RZ.out.cell 3 rfl
  have s4 := RZ.out.cell 4 rfl
  have s5 := RZ.out.cell 5 rfl
  have s6 := RZ.out.cell 6 rfl
  exact bodyPost_ret (v := repV (repE E)) (by simp [results, Tryz.results34, go_sem, s0, s1, s2, s3, s4, s5, s6]) rfl ⟨rfl, mt1, HZ.out, TZ.out⟩
end
end Go.Proofs.YtiomhdanmcnaeaaGreatDoor
