/- A name is taken away. -/
import Derived.Test.YtiomhdanmcnaeaaGreatDoorUb16
namespace Go.Proofs.YtiomhdanmcnaeaaGreatDoor
open Go.RowKit

def Tr.unlinkE (T : Tr) (k : Int) : Int := if ((T.th k).getD th0).1 = 2 ∧ 0 < T.size (k, 0) then 20 else 0
def Tr.unlinkT (T : Tr) (k : Int) (Y : List (List UInt8)) (s : List UInt8) : Tr := (T.dropP (T.spotP Y s) s).setP k (((T.th k).getD th0).1, ((T.th k).getD th0).2.1 - 1, ((T.th k).getD th0).2.2)
theorem unlinkT_ok {T : Tr} {c : Nat} (h : TokC T c) (hc : c + 2 ≤ 1000000) {k : Int} (Y : List (List UInt8)) (s : List UInt8) {x : Thg} (hx : T.th k = some x) : TokC (T.unlinkT k Y s) (c + 2) := by
  have hg : (T.th k).getD th0 = x := by rw [hx]; rfl
  unfold Tr.unlinkT
  rw [hg]
  have ht := h.th k x hx
  have a := h.drop (by omega) (T.spotP Y s) s
  exact a.set (by omega) k (x.1, x.2.1 - 1, x.2.2) (fun h0 => ⟨ht.1, by have h1 : x.2.1 - 1 ≠ 0 := h0; show 1 ≤ x.2.1 - 1; omega, by show x.2.1 - 1 ≤ 1000; omega, ht.2.2.2⟩)
section
variable {w : World} {b n : Nat} {mt ml : Option Nat} {T : Tr}
set_option maxRecDepth 100000 in
set_option maxHeartbeats 8000000 in
theorem unlink_any {c : Nat} (h : IsT w b mt ml n T) (ht : TokC T c) (hc : c + 3 ≤ 1000000) (hn : n + 10 < 100000000) (cl : Cal) (A : Option Addr) (k cc : Nat) (Y : List (List UInt8)) (s : List UInt8) (hX : IsG w 1 encT A (k + 1) (Y ++ [s])) (hkc : k + 1 ≤ cc) (hs : ∀ x ∈ Y ++ [s], 1 ≤ x.length ∧ x.length ≤ 1000) (B : Option Addr) (m d : Nat) (th : Int) (x : Thg) (hx : T.th th = some x) (hth : 1 ≤ th ∧ th ≤ T.last) :
    Calls Tryz.prog 31 #[.pointer (some ⟨b, 0, none⟩), askV cl (.slice A (k + 1) cc) (.slice B m d) th] w fun e w' => e = .returned (repV (repE (T.unlinkE th))) ∧ ∃ mt' ml', IsT w' b mt' ml' (n + 2) (if T.unlinkE th = 0 then T.unlinkT th Y s else T) ∧ Turn w w' b mt ml mt' ml' := by
  have HX0 := Lib.hid hX
  have H := Lib.hid h
  have Ht := Lib.hid ht
  have Hs := Lib.hid (fun x hx => (hs x hx).2)
  have HPw := Lib.hid (spotP_wf ht.tok Y s)
  have hlast := ht.tok.last
  have Hx : Hid ((T.th th).getD th0 = x) := Lib.hid (by rw [hx]; rfl)
  have hxb := ht.th th x hx
  have hwf : (Lit.int .i64 th).wf = true := wf_of (by omega)
  have C1 : Hid (TokC (T.dropP (T.spotP Y s) s) (c + 1)) := Lib.hid (ht.drop (by omega) _ s)
  have C2 : Hid (TokC (T.unlinkT th Y s) (c + 2)) := Lib.hid (unlinkT_ok ht (by omega) Y s hx)
  clear h ht hX hs hx
  obtain ⟨E, HE⟩ : ∃ r, Hid (T.unlinkE th = r) := ⟨_, Lib.hid rfl⟩
  obtain ⟨T2, HT2⟩ : ∃ r, Hid ((if T.unlinkE th = 0 then T.unlinkT th Y s else T) = r) := ⟨_, Lib.hid rfl⟩
  obtain ⟨P, HP⟩ : ∃ r, Hid (T.spotP Y s = r) := ⟨_, Lib.hid rfl⟩
  obtain ⟨S, HS⟩ : ∃ r : Nat, Hid (T.size (th, 0) = r) := ⟨_, Lib.hid rfl⟩
  have HE2 : Hid (E = if x.1 = 2 ∧ 0 < S then 20 else 0) := Lib.hid (by rw [← HE.out, Tr.unlinkE, Hx.out, HS.out])
  have Hnew : Hid (T.unlinkT th Y s = (T.dropP P s).setP th (x.1, x.2.1 - 1, x.2.2)) := Lib.hid (by rw [Tr.unlinkT, HP.out, Hx.out])
  rw [HP.out] at HPw C1
  rw [HT2.out, HE.out]
  have hw2 : IntKind.i64.wrap (x.2.1 - 1) = x.2.1 - 1 := IntWalk.i64_in _ (by omega)
  go_enter Tryz.func31, Tryz.ntmps31
  go_upto_region 1 with (fail)
  obtain ⟨w1, Hw1⟩ : ∃ u, Hid (w.alloc (.cells (askC cl (.slice A (k + 1) cc) (.slice B m d) th) 49) = u) := ⟨_, Lib.hid rfl⟩
  obtain ⟨q, Hq⟩ : ∃ u, Hid (w.heap.size = u) := ⟨_, Lib.hid rfl⟩
  have HX1 : Hid (BoxC w1 q (askC cl (.slice A (k + 1) cc) (.slice B m d) th) 49) := Lib.hid (by rw [← Hw1.out, ← Hq.out]; exact BoxC.new w _ _)
  have B1 : Hid (Below w.heap.size w w1) := Lib.hid (by rw [← Hw1.out]; exact balloc (Below.refl _ _) _)
  obtain ⟨w2, Hw2⟩ : ∃ u, Hid (w1.alloc (.cells rep0 29) = u) := ⟨_, Lib.hid rfl⟩
  obtain ⟨p, Hp⟩ : ∃ u, Hid (w.heap.size + 1 = u) := ⟨_, Lib.hid rfl⟩
  have hp1 : w1.heap.size = p := by rw [← Hw1.out, ← Hp.out]; simp
  have HR2 : Hid (BoxC w2 p rep0 29) := Lib.hid (by rw [← Hw2.out, ← hp1]; exact BoxC.new w1 _ _)
  have hb2 : Below w1.heap.size w1 w2 := by rw [← Hw2.out]; exact balloc (Below.refl _ _) _
  have B2 := Lib.hid (bnext B1.out hb2)
  have X2 := Lib.hid (HX1.out.below hb2)
  clear hb2
  have H2 := Lib.hid (H.out.below B2.out)
  rw [Hw1.out, Hw2.out, Hp.out, Hq.out]
  have x8 : ∀ y : In (Abv w2), y.u.cell? ⟨q, 8, none⟩ = some (.int .i64 th) := fun y => (X2.out.below y.is).cell 8 rfl
  have k2 : ∀ y : In (Abv w2), y.u.cell? ⟨b, 2, none⟩ = some (.map mt) := fun y => (H2.out.below y.is).c2
  have kl : ∀ y : In (Abv w2), (Instr.lookup 38 (.map mt) (.int .i64 th) false).run Tryz.prog y.u = .ok (.agg #[.int .i64 x.1, .int .i64 x.2.1, .string (str x.2.2)]) y.u := fun y => by
    have h := (H2.out.below y.is).lookT hwf
    rw [Hx.out] at h
    exact h
  refine wp_region_mix (by kernel_rfl) (Cls (Abv w2)) [(0, 0), (1, 0), (2, 0), (3, 0), (4, 0), (5, 0), (6, 0), (7, 1), (8, 2)] (by kernel_rfl) (cls (Below.refl _ _).drew) ?_
  repeat (refine mix0 rfl (fun K hK => ?_); go_simp; refine hK _ ?_; clear hK K)
  obtain ⟨wn, Hwn⟩ : ∃ u, Hid ((w2.alloc (.cells #[.int .i64 0, .int .i64 0, .string (str [])] 65)).drew = u) := ⟨_, Lib.hid rfl⟩
  obtain ⟨a, Ha⟩ : ∃ u, Hid (w2.heap.size = u) := ⟨_, Lib.hid rfl⟩
  have An : Hid (BoxC wn a #[.int .i64 0, .int .i64 0, .string (str [])] 65) := Lib.hid (by rw [← Hwn.out, ← Ha.out]; exact (BoxC.new w2 _ _).below (Below.refl _ _).drew)
  have Bn : Hid (Below w2.heap.size w2 wn) := Lib.hid (by rw [← Hwn.out]; exact (balloc (Below.refl _ _) _).drew)
  refine mix1 rfl (fun K hK => ?_)
  go_simp
  refine hK _ _ (cls (by rw [← Hwn.out] at Bn; exact Bn.out)) ?_
  clear hK K
  rw [Hwn.out, Ha.out]
  have f0 := An.out.free 0
  have f1 := An.out.free 1
  have f2 := An.out.free 2
  have z0 := An.out.cell 0 rfl
  have z1 := An.out.cell 1 rfl
  have z2 := An.out.cell 2 rfl
  refine mix2 rfl (fun K hK => ?_)
  go_simp
  refine hK _ _ ?_
  clear hK K f0 f1 f2 z0 z1 z2 x8 k2 kl
  refine mixEnd ?_
  obtain ⟨w3, Hto⟩ : ∃ u, Hid (((wn.setCell ⟨a, 0, none⟩ (.int .i64 x.1)).setCell ⟨a, 1, none⟩ (.int .i64 x.2.1)).setCell ⟨a, 2, none⟩ (.string (str x.2.2)) = u) := ⟨_, Lib.hid rfl⟩
  have A3 : Hid (BoxC w3 a #[.int .i64 x.1, .int .i64 x.2.1, .string (str x.2.2)] 65) := Lib.hid (by rw [← Hto.out]; exact ((An.out.put 0 (.int .i64 x.1)).put 1 (.int .i64 x.2.1)).put 2 (.string (str x.2.2)))
  have b3 : Below w2.heap.size w2 w3 := by rw [← Hto.out]; exact bmod Bn.out ((((Mod.refl _ wn).set1 _).set1 _).set1 _) (by have := Ha.out; omega)
  have B3 := Lib.hid (bnext B2.out b3)
  have R3 := Lib.hid (HR2.out.below b3)
  have X3 := Lib.hid (X2.out.below b3)
  have H3 := Lib.hid (H2.out.below b3)
  have hpa : p ≠ a := by have := HR2.out.lt; have := Ha.out; omega
  rw [Hto.out]
  clear b3 Hto An Bn Hwn
  have a0 := A3.out.cell 0 rfl
  have x8 := X3.out.cell 8 rfl
  by_cases hk2 : x.1 = 2
  · have hq : (x.1 == 2) = true := by simpa using hk2
    go_wp2_with fail
    clear a0 x8
    refine (size_any H3.out (th, 0) hwf (by show (Lit.int .i64 0).wf = true; decide) (Ht.out.tok.list (th, 0)).1).mono ?_
    rw [HS.out]
    rintro e w4 ⟨rfl, hb⟩
    have B4 := Lib.hid (bnext B3.out hb)
    have R4 := Lib.hid (R3.out.below hb)
    have X4 := Lib.hid (X3.out.below hb)
    have A4 := Lib.hid (A3.out.below hb)
    have H4 := Lib.hid (H3.out.below hb)
    clear hb
    by_cases hS : 0 < S
    · have hS2 : (0 : Int) < (S : Int) := by omega
      have he : E = 20 := by simpa [hk2, hS] using HE2.out
      subst he
      have hT2 : T2 = T := by rw [← HT2.out, HE.out]; rfl
      subst hT2
      clear hk2 hS
      have f0 := R4.out.free 0
      have f1 := R4.out.free 1
      have f2 := R4.out.free 2
      have f3 := R4.out.free 3
      have f4 := R4.out.free 4
      have f5 := R4.out.free 5
      have f6 := R4.out.free 6
      have z0 := R4.out.cell 0 rfl
      have z1 := R4.out.cell 1 rfl
      have z2 := R4.out.cell 2 rfl
      have z3 := R4.out.cell 3 rfl
      have z4 := R4.out.cell 4 rfl
      have z5 := R4.out.cell 5 rfl
      have z6 := R4.out.cell 6 rfl
      have RZ := Lib.hid (setR_box R4.out (repE 20))
      have HZ := Lib.hid ((H4.out.box Ht.out.ne (setR_mod w4 p (repE 20)) R4.out rep_no2 rep_nohe).more (show n ≤ n + 2 by omega))
      have TZ := Lib.hid (Turn.below b mt ml (bmod B4.out (setR_mod w4 p (repE 20)) (by have := Hp.out; omega)))
      go_wp2
      obtain ⟨wz, Hwz⟩ : ∃ u, Hid (setR w4 p (repE 20) = u) := ⟨_, Lib.hid rfl⟩
      rw [Hwz.out] at RZ HZ TZ
      rw [show ((((((w4.setCell ⟨p, 0, none⟩ (.int .i64 20)).setCell ⟨p, 1, none⟩ (.string (str []))).setCell ⟨p, 2, none⟩ (.slice none 0 0)).setCell ⟨p, 3, none⟩ (.int .i64 0)).setCell ⟨p, 4, none⟩ (.int .i64 0)).setCell ⟨p, 5, none⟩ (.int .i64 0)).setCell ⟨p, 6, none⟩ (.int .i64 0) = wz from Hwz.out]
      have s0 := RZ.out.cell 0 rfl
      have s1 := RZ.out.cell 1 rfl
      have s2 := RZ.out.cell 2 rfl
      have s3 := RZ.out.cell 3 rfl
      have s4 := RZ.out.cell 4 rfl
      have s5 := RZ.out.cell 5 rfl
      have s6 := RZ.out.cell 6 rfl
      exact bodyPost_ret (v := repV (repE 20)) (by simp [results, Tryz.results31, go_sem, s0, s1, s2, s3, s4, s5, s6]) rfl ⟨rfl, mt, ml, HZ.out, TZ.out⟩
    · have hS2 : ¬ (0 : Int) < (S : Int) := by omega
      have he : E = 0 := by simpa [hk2, hS] using HE2.out
      subst he
      have hT2 : T2 = T.unlinkT th Y s := by rw [← HT2.out, HE.out, if_pos rfl]
      clear hk2 hS
      have x6 := X4.out.cell 6 rfl
      go_wp2_with fail
      clear x6
      refine (spotOf_any H4.out Ht.out.tok A k cc Y s (HX0.out.below B4.out) hkc Hs.out).mono ?_
      rw [show placeP (T.spotF Y) s = P from HP.out]
      rintro e w5 ⟨rfl, hb⟩
      have B5 : Hid (Below w.heap.size w w5) := Lib.hid (bnext B4.out hb)
      have R5 := Lib.hid (R4.out.below hb)
      have X5 := Lib.hid (X4.out.below hb)
      have A5 := Lib.hid (A4.out.below hb)
      clear hb
      go_upto_region 5 with (fail)
      obtain ⟨w6, Hw6⟩ : ∃ u, Hid (w5.alloc (.cells #[.int .i64 P.1, .int .i64 P.2, .string (str s)] 96) = u) := ⟨_, Lib.hid rfl⟩
      obtain ⟨r, Hr⟩ : ∃ u, Hid (w5.heap.size = u) := ⟨_, Lib.hid rfl⟩
      have S6 : Hid (BoxC w6 r #[.int .i64 P.1, .int .i64 P.2, .string (str s)] 96) := Lib.hid (by rw [← Hw6.out, ← Hr.out]; exact BoxC.new w5 _ _)
      have hb6 : Below w5.heap.size w5 w6 := by rw [← Hw6.out]; exact balloc (Below.refl _ _) _
      have B6 := Lib.hid (bnext B5.out hb6)
      have R6 := Lib.hid (R5.out.below hb6)
      have X6 := Lib.hid (X5.out.below hb6)
      have A6 := Lib.hid (A5.out.below hb6)
      have H6 := Lib.hid (H.out.below B6.out)
      clear hb6
      rw [Hw6.out, Hr.out]
      have hpo := H6.out.notOwn R6.out rep_no2
      have hqo := H6.out.notOwn X6.out (fun x h => by cases h)
      have hao := H6.out.notOwn A6.out (thg_no2 x.1 x.2.1 x.2.2)
      have s0 := S6.out.cell 0 rfl
      have s1 := S6.out.cell 1 rfl
      have s2 := S6.out.cell 2 rfl
      go_wp2_with fail
      clear s0 s1 s2
      refine (drop_any H6.out Ht.out.tok (by omega) P s HPw.out.1 HPw.out.2).mono ?_
      rintro e w7 ⟨rfl, ml1, h7, t7⟩
      have H7 := Lib.hid h7
      have T67 := Lib.hid t7
      clear h7 t7
      have R7 := Lib.hid (R6.out.kept T67.out.mod hpo)
      have X7 := Lib.hid (X6.out.kept T67.out.mod hqo)
      have A7 := Lib.hid (A6.out.kept T67.out.mod hao)
      have T7 : Hid (Turn w w7 b mt ml mt ml1) := Lib.hid ((Turn.below b mt ml B6.out).trans T67.out)
      have a1 := A7.out.cell 1 rfl
      have af := A7.out.free 1
      go_upto_region 7 with (fail)
      clear a1 af
      obtain ⟨w8, Hw8⟩ : ∃ u, Hid (w7.setCell ⟨a, 1, none⟩ (.int .i64 (x.2.1 - 1)) = u) := ⟨_, Lib.hid rfl⟩
      have M8 : Hid (Mod (· = a) w7 w8) := Lib.hid (by rw [← Hw8.out]; exact (Mod.refl _ w7).set1 _)
      have A8 : Hid (BoxC w8 a #[.int .i64 x.1, .int .i64 (x.2.1 - 1), .string (str x.2.2)] 65) := Lib.hid (by rw [← Hw8.out]; exact A7.out.put 1 (.int .i64 (x.2.1 - 1)))
      have hqa : q ≠ a := by have := Ha.out; have := X2.out.lt; omega
      have R8 := Lib.hid (R7.out.kept M8.out hpa)
      have X8 := Lib.hid (X7.out.kept M8.out hqa)
      have H8 := Lib.hid (H7.out.box C1.out.ne M8.out A7.out (thg_no2 x.1 x.2.1 x.2.2) (thg_nohe x.1 x.2.1 x.2.2))
      have T8 : Hid (Turn w w8 b mt ml mt ml1) := Lib.hid (T7.out.fresh M8.out (by have := Ha.out; have := B2.out.size; omega))
      rw [Hw8.out]
      have hpo8 := H8.out.notOwn R8.out rep_no2
      have a0 := A8.out.cell 0 rfl
      have a1 := A8.out.cell 1 rfl
      have a2 := A8.out.cell 2 rfl
      have x8 := X8.out.cell 8 rfl
      go_wp2_with fail
      clear a0 a1 a2 x8
      refine (set_any H8.out C1.out.tok.free (by omega) th hwf (x.1, x.2.1 - 1, x.2.2) (by show x.2.2.length ≤ 100000; omega) (fun y hy => C1.out.data hy)).mono ?_
      rintro e w9 ⟨rfl, mt1, h9, t9⟩
      have H9 : Hid (IsT w9 b mt1 ml1 (n + 2) (T.unlinkT th Y s)) := Lib.hid (by rw [Hnew.out]; exact h9)
      have T89 := Lib.hid t9
      clear h9 t9
      have R10 := Lib.hid (R8.out.kept T89.out.mod hpo8)
      have T10 := Lib.hid (T8.out.trans T89.out)
      subst hT2
      have f0 := R10.out.free 0
      have f1 := R10.out.free 1
      have f2 := R10.out.free 2
      have f3 := R10.out.free 3
      have f4 := R10.out.free 4
      have f5 := R10.out.free 5
      have f6 := R10.out.free 6
      have z0 := R10.out.cell 0 rfl
      have z1 := R10.out.cell 1 rfl
      have z2 := R10.out.cell 2 rfl
      have z3 := R10.out.cell 3 rfl
      have z4 := R10.out.cell 4 rfl
      have z5 := R10.out.cell 5 rfl
      have z6 := R10.out.cell 6 rfl
      have RZ := Lib.hid (setR_box R10.out (repE 0))
      have HZ := Lib.hid (H9.out.box C2.out.ne (setR_mod w9 p (repE 0)) R10.out rep_no2 rep_nohe)
      have TZ := Lib.hid (T10.out.fresh (setR_mod w9 p (repE 0)) (by have := Hp.out; omega))
      go_wp2
      obtain ⟨wz, Hwz⟩ : ∃ u, Hid (setR w9 p (repE 0) = u) := ⟨_, Lib.hid rfl⟩
      rw [Hwz.out] at RZ HZ TZ
      rw [show ((((((w9.setCell ⟨p, 0, none⟩ (.int .i64 0)).setCell ⟨p, 1, none⟩ (.string (str []))).setCell ⟨p, 2, none⟩ (.slice none 0 0)).setCell ⟨p, 3, none⟩ (.int .i64 0)).setCell ⟨p, 4, none⟩ (.int .i64 0)).setCell ⟨p, 5, none⟩ (.int .i64 0)).setCell ⟨p, 6, none⟩ (.int .i64 0) = wz from Hwz.out]
      have s0 := RZ.out.cell 0 rfl
      have s1 := RZ.out.cell 1 rfl
      have s2 := RZ.out.cell 2 rfl
      have s3 := RZ.out.cell 3 rfl
      have s4 := RZ.out.cell 4 rfl
      have s5 := RZ.out.cell 5 rfl
      have s6 := RZ.out.cell 6 rfl
      exact bodyPost_ret (v := repV (repE 0)) (by simp [results, Tryz.results31, go_sem, s0, s1, s2, s3, s4, s5, s6]) rfl ⟨rfl, mt1, ml1, HZ.out, TZ.out⟩
  · have hq : (x.1 == 2) = false := by simpa using hk2
    have he : E = 0 := by simpa [hk2] using HE2.out
    subst he
    have hT2 : T2 = T.unlinkT th Y s := by rw [← HT2.out, HE.out, if_pos rfl]
    have B4 := B3
    have R4 := R3
    have X4 := X3
    have A4 := A3
    have H4 := H3
    clear hk2
    have x6 := X4.out.cell 6 rfl
    go_wp2_with fail
    clear x6
    refine (spotOf_any H4.out Ht.out.tok A k cc Y s (HX0.out.below B4.out) hkc Hs.out).mono ?_
    rw [show placeP (T.spotF Y) s = P from HP.out]
    rintro e w5 ⟨rfl, hb⟩
    have B5 : Hid (Below w.heap.size w w5) := Lib.hid (bnext B4.out hb)
    have R5 := Lib.hid (R4.out.below hb)
    have X5 := Lib.hid (X4.out.below hb)
    have A5 := Lib.hid (A4.out.below hb)
    clear hb
    go_upto_region 5 with (fail)
    obtain ⟨w6, Hw6⟩ : ∃ u, Hid (w5.alloc (.cells #[.int .i64 P.1, .int .i64 P.2, .string (str s)] 96) = u) := ⟨_, Lib.hid rfl⟩
    obtain ⟨r, Hr⟩ : ∃ u, Hid (w5.heap.size = u) := ⟨_, Lib.hid rfl⟩
    have S6 : Hid (BoxC w6 r #[.int .i64 P.1, .int .i64 P.2, .string (str s)] 96) := Lib.hid (by rw [← Hw6.out, ← Hr.out]; exact BoxC.new w5 _ _)
    have hb6 : Below w5.heap.size w5 w6 := by rw [← Hw6.out]; exact balloc (Below.refl _ _) _
    have B6 := Lib.hid (bnext B5.out hb6)
    have R6 := Lib.hid (R5.out.below hb6)
    have X6 := Lib.hid (X5.out.below hb6)
    have A6 := Lib.hid (A5.out.below hb6)
    have H6 := Lib.hid (H.out.below B6.out)
    clear hb6
    rw [Hw6.out, Hr.out]
    have hpo := H6.out.notOwn R6.out rep_no2
    have hqo := H6.out.notOwn X6.out (fun x h => by cases h)
    have hao := H6.out.notOwn A6.out (thg_no2 x.1 x.2.1 x.2.2)
    have s0 := S6.out.cell 0 rfl
    have s1 := S6.out.cell 1 rfl
    have s2 := S6.out.cell 2 rfl
    go_wp2_with fail
    clear s0 s1 s2
    refine (drop_any H6.out Ht.out.tok (by omega) P s HPw.out.1 HPw.out.2).mono ?_
    rintro e w7 ⟨rfl, ml1, h7, t7⟩
    have H7 := Lib.hid h7
    have T67 := Lib.hid t7
    clear h7 t7
    have R7 := Lib.hid (R6.out.kept T67.out.mod hpo)
    have X7 := Lib.hid (X6.out.kept T67.out.mod hqo)
    have A7 := Lib.hid (A6.out.kept T67.out.mod hao)
    have T7 : Hid (Turn w w7 b mt ml mt ml1) := Lib.hid ((Turn.below b mt ml B6.out).trans T67.out)
    have a1 := A7.out.cell 1 rfl
    have af := A7.out.free 1
    go_upto_region 7 with (fail)
    clear a1 af
    obtain ⟨w8, Hw8⟩ : ∃ u, Hid (w7.setCell ⟨a, 1, none⟩ (.int .i64 (x.2.1 - 1)) = u) := ⟨_, Lib.hid rfl⟩
    have M8 : Hid (Mod (· = a) w7 w8) := Lib.hid (by rw [← Hw8.out]; exact (Mod.refl _ w7).set1 _)
    have A8 : Hid (BoxC w8 a #[.int .i64 x.1, .int .i64 (x.2.1 - 1), .string (str x.2.2)] 65) := Lib.hid (by rw [← Hw8.out]; exact A7.out.put 1 (.int .i64 (x.2.1 - 1)))
    have hqa : q ≠ a := by have := Ha.out; have := X2.out.lt; omega
    have R8 := Lib.hid (R7.out.kept M8.out hpa)
    have X8 := Lib.hid (X7.out.kept M8.out hqa)
    have H8 := Lib.hid (H7.out.box C1.out.ne M8.out A7.out (thg_no2 x.1 x.2.1 x.2.2) (thg_nohe x.1 x.2.1 x.2.2))
    have T8 : Hid (Turn w w8 b mt ml mt ml1) := Lib.hid (T7.out.fresh M8.out (by have := Ha.out; have := B2.out.size; omega))
    rw [Hw8.out]
    have hpo8 := H8.out.notOwn R8.out rep_no2
    have a0 := A8.out.cell 0 rfl
    have a1 := A8.out.cell 1 rfl
    have a2 := A8.out.cell 2 rfl
    have x8 := X8.out.cell 8 rfl
    go_wp2_with fail
    clear a0 a1 a2 x8
    refine (set_any H8.out C1.out.tok.free (by omega) th hwf (x.1, x.2.1 - 1, x.2.2) (by show x.2.2.length ≤ 100000; omega) (fun y hy => C1.out.data hy)).mono ?_
    rintro e w9 ⟨rfl, mt1, h9, t9⟩
    have H9 : Hid (IsT w9 b mt1 ml1 (n + 2) (T.unlinkT th Y s)) := Lib.hid (by rw [Hnew.out]; exact h9)
    have T89 := Lib.hid t9
    clear h9 t9
    have R10 := Lib.hid (R8.out.kept T89.out.mod hpo8)
    have T10 := Lib.hid (T8.out.trans T89.out)
    subst hT2
    have f0 := R10.out.free 0
    have f1 := R10.out.free 1
    have f2 := R10.out.free 2
    have f3 := R10.out.free 3
    have f4 := R10.out.free 4
    have f5 := R10.out.free 5
    have f6 := R10.out.free 6
    have z0 := R10.out.cell 0 rfl
    have z1 := R10.out.cell 1 rfl
    have z2 := R10.out.cell 2 rfl
    have z3 := R10.out.cell 3 rfl
    have z4 := R10.out.cell 4 rfl
    have z5 := R10.out.cell 5 rfl
    have z6 := R10.out.cell 6 rfl
    have RZ := Lib.hid (setR_box R10.out (repE 0))
    have HZ := Lib.hid (H9.out.box C2.out.ne (setR_mod w9 p (repE 0)) R10.out rep_no2 rep_nohe)
    have TZ := Lib.hid (T10.out.fresh (setR_mod w9 p (repE 0)) (by have := Hp.out; omega))
    go_wp2
    obtain ⟨wz, Hwz⟩ : ∃ u, Hid (setR w9 p (repE 0) = u) := ⟨_, Lib.hid rfl⟩
    rw [Hwz.out] at RZ HZ TZ
    rw [show ((((((w9.setCell ⟨p, 0, none⟩ (.int .i64 0)).setCell ⟨p, 1, none⟩ (.string (str []))).setCell ⟨p, 2, none⟩ (.slice none 0 0)).setCell ⟨p, 3, none⟩ (.int .i64 0)).setCell ⟨p, 4, none⟩ (.int .i64 0)).setCell ⟨p, 5, none⟩ (.int .i64 0)).setCell ⟨p, 6, none⟩ (.int .i64 0) = wz from Hwz.out]
    have s0 := RZ.out.cell 0 rfl
    have s1 := RZ.out.cell 1 rfl
    have s2 := RZ.out.cell 2 rfl
    have s3 := RZ.out.cell 3 rfl
    have s4 := RZ.out.cell 4 rfl
    have s5 := RZ.out.cell 5 rfl
    have s6 := RZ.out.cell 6 rfl
    exact bodyPost_ret (v := repV (repE 0)) (by simp [results, Tryz.results31, go_sem, s0, s1, s2, s3, s4, s5, s6]) rfl ⟨rfl, mt1, ml1, HZ.out, TZ.out⟩
end
end Go.Proofs.YtiomhdanmcnaeaaGreatDoor
