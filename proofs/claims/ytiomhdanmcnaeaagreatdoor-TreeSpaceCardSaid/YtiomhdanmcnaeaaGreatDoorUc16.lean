/- A file is given one more name. -/
import Derived.Test.YtiomhdanmcnaeaaGreatDoorUb16
namespace Go.Proofs.YtiomhdanmcnaeaaGreatDoor
open Go.RowKit

/-- What is told of one more name for a thing. -/
def Tr.linkE (T : Tr) (k : Int) (Y : List (List UInt8)) (s : List UInt8) : Int := if ((T.th k).getD th0).1 = 2 then 18 else if ((T.th k).getD th0).2.1 = 1000 then 11 else T.newE Y s 0
def Tr.linkT (T : Tr) (k : Int) (Y : List (List UInt8)) (s : List UInt8) : Tr := (T.setP k (((T.th k).getD th0).1, ((T.th k).getD th0).2.1 + 1, ((T.th k).getD th0).2.2)).putP (T.spotP Y s) s k
theorem linkT_ok {T : Tr} {c : Nat} (h : TokC T c) (hc : c + 2 ≤ 1000000) {k : Int} {Y : List (List UInt8)} {s : List UInt8} {x : Thg} (hx : T.th k = some x) (hk : 1 ≤ k ∧ k ≤ T.last) (hE : T.linkE k Y s = 0) (hs : 1 ≤ s.length ∧ s.length ≤ 1000) : TokC (T.linkT k Y s) (c + 2) := by
  have hg : (T.th k).getD th0 = x := by rw [hx]; rfl
  unfold Tr.linkE at hE
  rw [hg] at hE
  unfold Tr.linkT
  rw [hg]
  have ht := h.th k x hx
  split at hE
  · cases hE
  · split at hE
    · cases hE
    · next h1 h2 =>
      have a := h.set (by omega) k (x.1, x.2.1 + 1, x.2.2) (fun _ => ⟨ht.1, by show 1 ≤ x.2.1 + 1; omega, by show x.2.1 + 1 ≤ 1000; omega, ht.2.2.2⟩)
      exact a.put (by omega) (T.spotP Y s) s k hs (newE_fits hE k).1 hk
section
variable {w : World} {b n : Nat} {mt ml : Option Nat} {T : Tr}
set_option maxRecDepth 100000 in
set_option maxHeartbeats 8000000 in
theorem link_any {c : Nat} (h : IsT w b mt ml n T) (ht : TokC T c) (hc : c + 3 ≤ 1000000) (hn : n + 10 < 100000000) (cl : Cal) (A : Option Addr) (k cc : Nat) (Y : List (List UInt8)) (s : List UInt8) (hX : IsG w 1 encT A (k + 1) (Y ++ [s])) (hkc : k + 1 ≤ cc) (hs : ∀ x ∈ Y ++ [s], 1 ≤ x.length ∧ x.length ≤ 1000) (B : Option Addr) (m d : Nat) (th : Int) (x : Thg) (hx : T.th th = some x) (hth : 1 ≤ th ∧ th ≤ T.last) :
    Calls Tryz.prog 30 #[.pointer (some ⟨b, 0, none⟩), askV cl (.slice B m d) (.slice A (k + 1) cc) th] w fun e w' => e = .returned (repV (repE (T.linkE th Y s))) ∧ ∃ mt' ml', IsT w' b mt' ml' (n + 2) (if T.linkE th Y s = 0 then T.linkT th Y s else T) ∧ Turn w w' b mt ml mt' ml' := by
  have HX0 := Lib.hid hX
  have H := Lib.hid h
  have Ht := Lib.hid ht
  have Hs := Lib.hid (fun x hx => (hs x hx).2)
  have hsl := hs s (by simp)
  have HPw := Lib.hid (spotP_wf ht.tok Y s)
  have hlast := ht.tok.last
  have Hx : Hid ((T.th th).getD th0 = x) := Lib.hid (by rw [hx]; rfl)
  have Hxs := Lib.hid hx
  have hxb := ht.th th x hx
  have hwf : (Lit.int .i64 th).wf = true := wf_of (by omega)
  clear h ht hX hs hx
  obtain ⟨E, HE⟩ : ∃ r, Hid (T.linkE th Y s = r) := ⟨_, Lib.hid rfl⟩
  obtain ⟨T2, HT2⟩ : ∃ r, Hid ((if T.linkE th Y s = 0 then T.linkT th Y s else T) = r) := ⟨_, Lib.hid rfl⟩
  obtain ⟨P, HP⟩ : ∃ r, Hid (T.spotP Y s = r) := ⟨_, Lib.hid rfl⟩
  obtain ⟨V, HV⟩ : ∃ r, Hid (T.vacE Y s = r) := ⟨_, Lib.hid rfl⟩
  obtain ⟨S, HS⟩ : ∃ r : Nat, Hid (T.size P = r) := ⟨_, Lib.hid rfl⟩
  have hS : S ≤ 6144 := by rw [← HS.out]; exact (Ht.out.tok.list P).1.size
  obtain ⟨R, HR⟩ : ∃ r, Hid (T.roomE P ((S : Int) + ((s.length : Int) + 6)) 0 = r) := ⟨_, Lib.hid rfl⟩
  obtain ⟨N, HN⟩ : ∃ r, Hid (T.newE Y s 0 = r) := ⟨_, Lib.hid rfl⟩
  have HN2 : Hid (N = if V = 0 then R else V) := Lib.hid (by rw [← HN.out, Tr.newE, HV.out, Tr.roomN, HP.out, HS.out, HR.out])
  have HE2 : Hid (E = if x.1 = 2 then 18 else if x.2.1 = 1000 then 11 else N) := Lib.hid (by rw [← HE.out, Tr.linkE, Hx.out, HN.out])
  rw [HP.out] at HPw
  rw [HT2.out, HE.out]
  have hw1 : IntKind.i64.wrap ((S : Int) + ((s.length : Int) + 6)) = (S : Int) + ((s.length : Int) + 6) := IntWalk.i64_in _ (by omega)
  have hw2 : IntKind.i64.wrap (x.2.1 + 1) = x.2.1 + 1 := IntWalk.i64_in _ (by omega)
  go_enter Tryz.func30, Tryz.ntmps30
  go_upto_region 1 with (fail)
  obtain ⟨w1, Hw1⟩ : ∃ u, Hid (w.alloc (.cells (askC cl (.slice B m d) (.slice A (k + 1) cc) th) 49) = u) := ⟨_, Lib.hid rfl⟩
  obtain ⟨q, Hq⟩ : ∃ u, Hid (w.heap.size = u) := ⟨_, Lib.hid rfl⟩
  have HX1 : Hid (BoxC w1 q (askC cl (.slice B m d) (.slice A (k + 1) cc) th) 49) := Lib.hid (by rw [← Hw1.out, ← Hq.out]; exact BoxC.new w _ _)
  have B1 : Hid (Below w.heap.size w w1) := Lib.hid (by rw [← Hw1.out]; exact balloc (Below.refl _ _) _)
  obtain ⟨w2, Hw2⟩ : ∃ u, Hid (w1.alloc (.cells rep0 29) = u) := ⟨_, Lib.hid rfl⟩
  obtain ⟨p, Hp⟩ : ∃ u, Hid (w.heap.size + 1 = u) := ⟨_, Lib.hid rfl⟩
  have hp1 : w1.heap.size = p := by rw [← Hw1.out, ← Hp.out]; simp
  have HR2 : Hid (BoxC w2 p rep0 29) := Lib.hid (by rw [← Hw2.out, ← hp1]; exact BoxC.new w1 _ _)
  have hb2 : Below w1.heap.size w1 w2 := by rw [← Hw2.out]; exact balloc (Below.refl _ _) _
  have B2 := Lib.hid (bnext B1.out hb2)
  have X2 := Lib.hid (HX1.out.below hb2)
  clear hb2
  have H2 := Lib.hid (H.out.below B2.out)
  rw [Hw1.out, Hw2.out, Hp.out, Hq.out]
  have x8 : ∀ y : In (Abv w2), y.u.cell? ⟨q, 8, none⟩ = some (.int .i64 th) := fun y => (X2.out.below y.is).cell 8 rfl
  have k2 : ∀ y : In (Abv w2), y.u.cell? ⟨b, 2, none⟩ = some (.map mt) := fun y => (H2.out.below y.is).c2
  have kl : ∀ y : In (Abv w2), (Instr.lookup 38 (.map mt) (.int .i64 th) false).run Tryz.prog y.u = .ok (.agg #[.int .i64 x.1, .int .i64 x.2.1, .string (str x.2.2)]) y.u := fun y => by
    have h := (H2.out.below y.is).lookT hwf
    rw [Hx.out] at h
    exact h
  refine wp_region_mix (by kernel_rfl) (Cls (Abv w2)) [(0, 0), (1, 0), (2, 0), (3, 0), (4, 0), (5, 0), (6, 0), (7, 1), (8, 2)] (by kernel_rfl) (cls (Below.refl _ _).drew) ?_
  repeat (refine mix0 rfl (fun K hK => ?_); go_simp; refine hK _ ?_; clear hK K)
  obtain ⟨wn, Hwn⟩ : ∃ u, Hid ((w2.alloc (.cells #[.int .i64 0, .int .i64 0, .string (str [])] 65)).drew = u) := ⟨_, Lib.hid rfl⟩
  obtain ⟨a, Ha⟩ : ∃ u, Hid (w2.heap.size = u) := ⟨_, Lib.hid rfl⟩
  have An : Hid (BoxC wn a #[.int .i64 0, .int .i64 0, .string (str [])] 65) := Lib.hid (by rw [← Hwn.out, ← Ha.out]; exact (BoxC.new w2 _ _).below (Below.refl _ _).drew)
  have Bn : Hid (Below w2.heap.size w2 wn) := Lib.hid (by rw [← Hwn.out]; exact (balloc (Below.refl _ _) _).drew)
  refine mix1 rfl (fun K hK => ?_)
  go_simp
  refine hK _ _ (cls (by rw [← Hwn.out] at Bn; exact Bn.out)) ?_
  clear hK K
  rw [Hwn.out, Ha.out]
  have f0 := An.out.free 0
  have f1 := An.out.free 1
  have f2 := An.out.free 2
  have z0 := An.out.cell 0 rfl
  have z1 := An.out.cell 1 rfl
  have z2 := An.out.cell 2 rfl
  refine mix2 rfl (fun K hK => ?_)
  go_simp
  refine hK _ _ ?_
  clear hK K f0 f1 f2 z0 z1 z2 x8 k2 kl
  refine mixEnd ?_
  obtain ⟨w3, Hto⟩ : ∃ u, Hid (((wn.setCell ⟨a, 0, none⟩ (.int .i64 x.1)).setCell ⟨a, 1, none⟩ (.int .i64 x.2.1)).setCell ⟨a, 2, none⟩ (.string (str x.2.2)) = u) := ⟨_, Lib.hid rfl⟩
  have A3 : Hid (BoxC w3 a #[.int .i64 x.1, .int .i64 x.2.1, .string (str x.2.2)] 65) := Lib.hid (by rw [← Hto.out]; exact ((An.out.put 0 (.int .i64 x.1)).put 1 (.int .i64 x.2.1)).put 2 (.string (str x.2.2)))
  have b3 : Below w2.heap.size w2 w3 := by rw [← Hto.out]; exact bmod Bn.out ((((Mod.refl _ wn).set1 _).set1 _).set1 _) (by have := Ha.out; omega)
  have B3 := Lib.hid (bnext B2.out b3)
  have R3 := Lib.hid (HR2.out.below b3)
  have X3 := Lib.hid (X2.out.below b3)
  have H3 := Lib.hid (H2.out.below b3)
  have hpa : p ≠ a := by have := HR2.out.lt; have := Ha.out; omega
  rw [Hto.out]
  clear b3 Hto An Bn Hwn
  have a0 := A3.out.cell 0 rfl
  have a1 := A3.out.cell 1 rfl
  by_cases hk2 : x.1 = 2
  · have hq : (x.1 == 2) = true := by simpa using hk2
    have he : E = 18 := by simpa [hk2] using HE2.out
    subst he
    have hT2 : T2 = T := by rw [← HT2.out, HE.out]; rfl
    subst hT2
    clear hk2
    have f0 := R3.out.free 0
    have f1 := R3.out.free 1
    have f2 := R3.out.free 2
    have f3 := R3.out.free 3
    have f4 := R3.out.free 4
    have f5 := R3.out.free 5
    have f6 := R3.out.free 6
    have z0 := R3.out.cell 0 rfl
    have z1 := R3.out.cell 1 rfl
    have z2 := R3.out.cell 2 rfl
    have z3 := R3.out.cell 3 rfl
    have z4 := R3.out.cell 4 rfl
    have z5 := R3.out.cell 5 rfl
    have z6 := R3.out.cell 6 rfl
    have RZ := Lib.hid (setR_box R3.out (repE 18))
    have HZ := Lib.hid ((H3.out.box Ht.out.ne (setR_mod w3 p (repE 18)) R3.out rep_no2 rep_nohe).more (show n ≤ n + 2 by omega))
    have TZ := Lib.hid (Turn.below b mt ml (bmod B3.out (setR_mod w3 p (repE 18)) (by have := Hp.out; omega)))
    go_wp2
    obtain ⟨wz, Hwz⟩ : ∃ u, Hid (setR w3 p (repE 18) = u) := ⟨_, Lib.hid rfl⟩
    rw [Hwz.out] at RZ HZ TZ
    rw [show ((((((w3.setCell ⟨p, 0, none⟩ (.int .i64 18)).setCell ⟨p, 1, none⟩ (.string (str []))).setCell ⟨p, 2, none⟩ (.slice none 0 0)).setCell ⟨p, 3, none⟩ (.int .i64 0)).setCell ⟨p, 4, none⟩ (.int .i64 0)).setCell ⟨p, 5, none⟩ (.int .i64 0)).setCell ⟨p, 6, none⟩ (.int .i64 0) = wz from Hwz.out]
    have s0 := RZ.out.cell 0 rfl
    have s1 := RZ.out.cell 1 rfl
    have s2 := RZ.out.cell 2 rfl
    have s3 := RZ.out.cell 3 rfl
    have s4 := RZ.out.cell 4 rfl
    have s5 := RZ.out.cell 5 rfl
    have s6 := RZ.out.cell 6 rfl
    exact bodyPost_ret (v := repV (repE 18)) (by simp [results, Tryz.results30, go_sem, s0, s1, s2, s3, s4, s5, s6]) rfl ⟨rfl, mt, ml, HZ.out, TZ.out⟩
  · have hq : (x.1 == 2) = false := by simpa using hk2
    by_cases hk3 : x.2.1 = 1000
    · have hq2 : (x.2.1 == 1000) = true := by simpa using hk3
      have he : E = 11 := by simpa [hk2, hk3] using HE2.out
      subst he
      have hT2 : T2 = T := by rw [← HT2.out, HE.out]; rfl
      subst hT2
      clear hk2 hk3
      have f0 := R3.out.free 0
      have f1 := R3.out.free 1
      have f2 := R3.out.free 2
      have f3 := R3.out.free 3
      have f4 := R3.out.free 4
      have f5 := R3.out.free 5
      have f6 := R3.out.free 6
      have z0 := R3.out.cell 0 rfl
      have z1 := R3.out.cell 1 rfl
      have z2 := R3.out.cell 2 rfl
      have z3 := R3.out.cell 3 rfl
      have z4 := R3.out.cell 4 rfl
      have z5 := R3.out.cell 5 rfl
      have z6 := R3.out.cell 6 rfl
      have RZ := Lib.hid (setR_box R3.out (repE 11))
      have HZ := Lib.hid ((H3.out.box Ht.out.ne (setR_mod w3 p (repE 11)) R3.out rep_no2 rep_nohe).more (show n ≤ n + 2 by omega))
      have TZ := Lib.hid (Turn.below b mt ml (bmod B3.out (setR_mod w3 p (repE 11)) (by have := Hp.out; omega)))
      go_wp2
      obtain ⟨wz, Hwz⟩ : ∃ u, Hid (setR w3 p (repE 11) = u) := ⟨_, Lib.hid rfl⟩
      rw [Hwz.out] at RZ HZ TZ
      rw [show ((((((w3.setCell ⟨p, 0, none⟩ (.int .i64 11)).setCell ⟨p, 1, none⟩ (.string (str []))).setCell ⟨p, 2, none⟩ (.slice none 0 0)).setCell ⟨p, 3, none⟩ (.int .i64 0)).setCell ⟨p, 4, none⟩ (.int .i64 0)).setCell ⟨p, 5, none⟩ (.int .i64 0)).setCell ⟨p, 6, none⟩ (.int .i64 0) = wz from Hwz.out]
      have s0 := RZ.out.cell 0 rfl
      have s1 := RZ.out.cell 1 rfl
      have s2 := RZ.out.cell 2 rfl
      have s3 := RZ.out.cell 3 rfl
      have s4 := RZ.out.cell 4 rfl
      have s5 := RZ.out.cell 5 rfl
      have s6 := RZ.out.cell 6 rfl
      exact bodyPost_ret (v := repV (repE 11)) (by simp [results, Tryz.results30, go_sem, s0, s1, s2, s3, s4, s5, s6]) rfl ⟨rfl, mt, ml, HZ.out, TZ.out⟩
    · have hq2 : (x.2.1 == 1000) = false := by simpa using hk3
      have HEN : Hid (E = N) := Lib.hid (by simpa [hk2, hk3] using HE2.out)
      have HKL : Hid (x.1 ≠ 2 ∧ x.2.1 ≠ 1000) := Lib.hid ⟨hk2, hk3⟩
      clear hk2 hk3
      have x7 := X3.out.cell 7 rfl
      go_wp2_with fail
      clear x7 a0 a1
      refine (vacant_any H3.out Ht.out.tok A k cc Y s (HX0.out.below B3.out) hkc Hs.out).mono ?_
      rw [HP.out, HV.out]
      rintro e w3' ⟨rfl, hb⟩
      have B3' : Hid (Below w.heap.size w w3') := Lib.hid (bnext B3.out hb)
      have R3' := Lib.hid (R3.out.below hb)
      have X3' := Lib.hid (X3.out.below hb)
      have A3' := Lib.hid (A3.out.below hb)
      clear hb
      go_upto_region 7 with (fail)
      obtain ⟨w4, Hw4⟩ : ∃ u, Hid (w3'.alloc (.cells #[.int .i64 P.1, .int .i64 P.2, .string (str s)] 96) = u) := ⟨_, Lib.hid rfl⟩
      obtain ⟨r, Hr⟩ : ∃ u, Hid (w3'.heap.size = u) := ⟨_, Lib.hid rfl⟩
      have S4 : Hid (BoxC w4 r #[.int .i64 P.1, .int .i64 P.2, .string (str s)] 96) := Lib.hid (by rw [← Hw4.out, ← Hr.out]; exact BoxC.new w3' _ _)
      have hb4 : Below w3'.heap.size w3' w4 := by rw [← Hw4.out]; exact balloc (Below.refl _ _) _
      have B4 := Lib.hid (bnext B3'.out hb4)
      have R4 := Lib.hid (R3'.out.below hb4)
      have X4 := Lib.hid (X3'.out.below hb4)
      have A4 := Lib.hid (A3'.out.below hb4)
      have H4 := Lib.hid (H.out.below B4.out)
      have hra : r ≠ a := by have := A3'.out.lt; have := Hr.out; omega
      clear hb4
      rw [Hw4.out, Hr.out]
      go_upto_if 33 with (fail)
      go_cut [7] (fun v wx => v = .int .i64 E ∧ Hid (Below w4.heap.size w4 wx))
      case first =>
        by_cases hv : V = 0
        · have HeR : Hid (N = R) := Lib.hid (by simpa [hv] using HN2.out)
          subst hv
          go_upto_region 8 with (fail)
          have k0 : ∀ y : In (Abv w4), y.u.cell? ⟨r, 0, none⟩ = some (.int .i64 P.1) := fun y => (S4.out.below y.is).cell 0 rfl
          have k1 : ∀ y : In (Abv w4), y.u.cell? ⟨r, 1, none⟩ = some (.int .i64 P.2) := fun y => (S4.out.below y.is).cell 1 rfl
          have k2 : ∀ y : In (Abv w4), y.u.cell? ⟨r, 2, none⟩ = some (.string (str s)) := fun y => (S4.out.below y.is).cell 2 rfl
          refine wp_region_mix (by kernel_rfl) (Cls (Abv w4)) [(0, 0), (1, 0), (2, 0), (3, 0), (4, 0), (5, 0), (7, 0), (8, 0), (6, 1), (9, 1), (10, 0), (11, 1), (12, 0)] (by kernel_rfl) (cls (Below.refl _ _).drew) ?_
          repeat (refine mix0 rfl (fun K hK => ?_); go_simp; refine hK _ ?_; clear hK K)
          refine mix1 rfl (fun K hK => ?_)
          go_simp
          refine (size_any (H4.out.below (Below.refl _ w4).drew) P HPw.out.1 HPw.out.2 (Ht.out.tok.list P).1).mono ?_
          rw [HS.out]
          rintro e w5 ⟨rfl, hb⟩
          have B5 : Hid (Below w4.heap.size w4 w5) := Lib.hid ((Below.refl _ _).drew.trans hb)
          clear hb
          refine ⟨_, rfl, hK _ _ (cls B5.out) ?_⟩
          clear hK K
          repeat (refine mix0 rfl (fun K hK => ?_); go_simp; refine hK _ ?_; clear hK K)
          refine mix1 rfl (fun K hK => ?_)
          go_simp
          refine (long_any s hsl.2 _).mono ?_
          rintro e w6 ⟨rfl, hb⟩
          have B6 : Hid (Below w4.heap.size w4 w6) := Lib.hid (bnext B5.out hb)
          clear hb
          refine ⟨_, rfl, hK _ _ (cls B6.out) ?_⟩
          clear hK K
          repeat (refine mix0 rfl (fun K hK => ?_); go_simp; refine hK _ ?_; clear hK K)
          refine mix1 rfl (fun K hK => ?_)
          go_simp
          refine (room_any (H4.out.below B6.out) Ht.out.tok P HPw.out.1 HPw.out.2 ((S : Int) + ((s.length : Int) + 6)) 0 (by omega) (by omega)).mono ?_
          rw [HR.out]
          rintro e w7 ⟨rfl, hb⟩
          have B7 : Hid (Below w4.heap.size w4 w7) := Lib.hid (bnext B6.out hb)
          clear hb
          refine ⟨_, rfl, hK _ _ (cls B7.out) ?_⟩
          clear hK K
          repeat (refine mix0 rfl (fun K hK => ?_); go_simp; refine hK _ ?_; clear hK K)
          refine mixEnd ?_
          clear k0 k1 k2
          go_wp2
          go_meet
          exact ⟨by rw [HEN.out, HeR.out], B7⟩
        · have hq : (V == 0) = false := by simpa using hv
          have he : N = V := by simpa [hv] using HN2.out
          clear hv
          have HeV := Lib.hid he
          clear he
          go_wp2
          go_meet
          exact ⟨by rw [HEN.out, HeV.out], Lib.hid (Below.refl _ _)⟩
      case rest =>
        obtain ⟨rfl, C0⟩ := hcut
        have B5 := Lib.hid (bnext B4.out C0.out)
        have R5 := Lib.hid (R4.out.below C0.out)
        have X5 := Lib.hid (X4.out.below C0.out)
        have S5 := Lib.hid (S4.out.below C0.out)
        have A5 := Lib.hid (A4.out.below C0.out)
        have H5 := Lib.hid (H4.out.below C0.out)
        obtain ⟨w5, Hw5⟩ : ∃ u, Hid (wc = u) := ⟨_, Lib.hid rfl⟩
        rw [Hw5.out] at B5 R5 X5 S5 H5 A5
        rw [Hw5.out]
        clear C0
        by_cases he : E = 0
        · have hT2 : T2 = T.linkT th Y s := by rw [← HT2.out, HE.out, if_pos he]
          have Hfit := Lib.hid (newE_fits (T := T) (Y := Y) (s := s) (beside := 0) (by rw [HN.out, ← HEN.out]; exact he) th)
          have C3 : Hid (TokC (T.linkT th Y s) (c + 2)) := Lib.hid (linkT_ok Ht.out (by omega) Hxs.out hth (by rw [HE.out]; exact he) hsl)
          have C2 : Hid (TokC (T.setP th (x.1, x.2.1 + 1, x.2.2)) (c + 1)) := Lib.hid (Ht.out.set (by omega) th (x.1, x.2.1 + 1, x.2.2) (fun _ => ⟨hxb.1, by show 1 ≤ x.2.1 + 1; omega, by show x.2.1 + 1 ≤ 1000; have := HKL.out.2; omega, hxb.2.2.2⟩))
          have Hnew : Hid (T.linkT th Y s = (T.setP th (x.1, x.2.1 + 1, x.2.2)).putP P s th) := Lib.hid (by rw [Tr.linkT, HP.out, Hx.out])
          rw [HP.out] at Hfit
          subst he
          have a1 := A5.out.cell 1 rfl
          have af := A5.out.free 1
          go_upto_region 12 with (fail)
          clear a1 af
          obtain ⟨w6, Hw6⟩ : ∃ u, Hid (w5.setCell ⟨a, 1, none⟩ (.int .i64 (x.2.1 + 1)) = u) := ⟨_, Lib.hid rfl⟩
          have M6 : Hid (Mod (· = a) w5 w6) := Lib.hid (by rw [← Hw6.out]; exact (Mod.refl _ w5).set1 _)
          have A6 : Hid (BoxC w6 a #[.int .i64 x.1, .int .i64 (x.2.1 + 1), .string (str x.2.2)] 65) := Lib.hid (by rw [← Hw6.out]; exact A5.out.put 1 (.int .i64 (x.2.1 + 1)))
          have hqa : q ≠ a := by have := Hq.out; have := Ha.out; have := B2.out.size; have := X2.out.lt; omega
          have R6 := Lib.hid (R5.out.kept M6.out hpa)
          have X6 := Lib.hid (X5.out.kept M6.out hqa)
          have S6 := Lib.hid (S5.out.kept M6.out hra)
          have H6 := Lib.hid (H5.out.box Ht.out.ne M6.out A5.out (thg_no2 x.1 x.2.1 x.2.2) (thg_nohe x.1 x.2.1 x.2.2))
          have T6 : Hid (Turn w w6 b mt ml mt ml) := Lib.hid (Turn.below b mt ml (bmod B5.out M6.out (by have := Ha.out; have := B2.out.size; omega)))
          rw [Hw6.out]
          have hpo := H6.out.notOwn R6.out rep_no2
          have hro := H6.out.notOwn S6.out (fun x h => by cases h)
          have hqo := H6.out.notOwn X6.out (fun x h => by cases h)
          have a0 := A6.out.cell 0 rfl
          have a1 := A6.out.cell 1 rfl
          have a2 := A6.out.cell 2 rfl
          have x8 := X6.out.cell 8 rfl
          go_wp2_with fail
          clear a0 a1 a2 x8
          refine (set_any H6.out Ht.out.tok.free (by omega) th hwf (x.1, x.2.1 + 1, x.2.2) (by show x.2.2.length ≤ 100000; omega) (fun y hy => Ht.out.data hy)).mono ?_
          rintro e w9 ⟨rfl, mt1, h9, t9⟩
          have H9 := Lib.hid h9
          have T69 := Lib.hid t9
          clear h9 t9
          have R9 := Lib.hid (R6.out.kept T69.out.mod hpo)
          have S9 := Lib.hid (S6.out.kept T69.out.mod hro)
          have X9 := Lib.hid (X6.out.kept T69.out.mod hqo)
          have T9 := Lib.hid (T6.out.trans T69.out)
          have hpo9 := H9.out.notOwn R9.out rep_no2
          have s0 := S9.out.cell 0 rfl
          have s1 := S9.out.cell 1 rfl
          have s2 := S9.out.cell 2 rfl
          have x8 := X9.out.cell 8 rfl
          go_wp2_with fail
          clear s0 s1 s2 x8
          refine (put_any H9.out C2.out.tok (by omega) P s th HPw.out.1 HPw.out.2 hsl Hfit.out.1).mono ?_
          rintro e w10 ⟨rfl, ml1, h10, t10⟩
          have H10 : Hid (IsT w10 b mt1 ml1 (n + 2) (T.linkT th Y s)) := Lib.hid (by rw [Hnew.out]; exact h10)
          have T910 := Lib.hid t10
          clear h10 t10
          have R10 := Lib.hid (R9.out.kept T910.out.mod hpo9)
          have T10 := Lib.hid (T9.out.trans T910.out)
          subst hT2
          have f0 := R10.out.free 0
          have f1 := R10.out.free 1
          have f2 := R10.out.free 2
          have f3 := R10.out.free 3
          have f4 := R10.out.free 4
          have f5 := R10.out.free 5
          have f6 := R10.out.free 6
          have z0 := R10.out.cell 0 rfl
          have z1 := R10.out.cell 1 rfl
          have z2 := R10.out.cell 2 rfl
          have z3 := R10.out.cell 3 rfl
          have z4 := R10.out.cell 4 rfl
          have z5 := R10.out.cell 5 rfl
          have z6 := R10.out.cell 6 rfl
          have RZ := Lib.hid (setR_box R10.out (repE 0))
          have HZ := Lib.hid (H10.out.box C3.out.ne (setR_mod w10 p (repE 0)) R10.out rep_no2 rep_nohe)
          have TZ := Lib.hid (T10.out.fresh (setR_mod w10 p (repE 0)) (by have := Hp.out; omega))
          go_wp2
          obtain ⟨wz, Hwz⟩ : ∃ u, Hid (setR w10 p (repE 0) = u) := ⟨_, Lib.hid rfl⟩
          rw [Hwz.out] at RZ HZ TZ
          rw [show ((((((w10.setCell ⟨p, 0, none⟩ (.int .i64 0)).setCell ⟨p, 1, none⟩ (.string (str []))).setCell ⟨p, 2, none⟩ (.slice none 0 0)).setCell ⟨p, 3, none⟩ (.int .i64 0)).setCell ⟨p, 4, none⟩ (.int .i64 0)).setCell ⟨p, 5, none⟩ (.int .i64 0)).setCell ⟨p, 6, none⟩ (.int .i64 0) = wz from Hwz.out]
          have s0 := RZ.out.cell 0 rfl
          have s1 := RZ.out.cell 1 rfl
          have s2 := RZ.out.cell 2 rfl
          have s3 := RZ.out.cell 3 rfl
          have s4 := RZ.out.cell 4 rfl
          have s5 := RZ.out.cell 5 rfl
          have s6 := RZ.out.cell 6 rfl
          exact bodyPost_ret (v := repV (repE 0)) (by simp [results, Tryz.results30, go_sem, s0, s1, s2, s3, s4, s5, s6]) rfl ⟨rfl, mt1, ml1, HZ.out, TZ.out⟩
        · have hT2 : T2 = T := by rw [← HT2.out, HE.out, if_neg he]
          subst hT2
          have hq : (E != 0) = true := by simpa using he
          clear he
          have f0 := R5.out.free 0
          have f1 := R5.out.free 1
          have f2 := R5.out.free 2
          have f3 := R5.out.free 3
          have f4 := R5.out.free 4
          have f5 := R5.out.free 5
          have f6 := R5.out.free 6
          have z0 := R5.out.cell 0 rfl
          have z1 := R5.out.cell 1 rfl
          have z2 := R5.out.cell 2 rfl
          have z3 := R5.out.cell 3 rfl
          have z4 := R5.out.cell 4 rfl
          have z5 := R5.out.cell 5 rfl
          have z6 := R5.out.cell 6 rfl
          have RZ := Lib.hid (setR_box R5.out (repE E))
          have HZ := Lib.hid ((H5.out.box Ht.out.ne (setR_mod w5 p (repE E)) R5.out rep_no2 rep_nohe).more (show n ≤ n + 2 by omega))
          have TZ := Lib.hid (Turn.below b mt ml (bmod B5.out (setR_mod w5 p (repE E)) (by have := Hp.out; omega)))
          go_wp2
          obtain ⟨wz, Hwz⟩ : ∃ u, Hid (setR w5 p (repE E) = u) := ⟨_, Lib.hid rfl⟩
          rw [Hwz.out] at RZ HZ TZ
          rw [show ((((((w5.setCell ⟨p, 0, none⟩ (.int .i64 E)).setCell ⟨p, 1, none⟩ (.string (str []))).setCell ⟨p, 2, none⟩ (.slice none 0 0)).setCell ⟨p, 3, none⟩ (.int .i64 0)).setCell ⟨p, 4, none⟩ (.int .i64 0)).setCell ⟨p, 5, none⟩ (.int .i64 0)).setCell ⟨p, 6, none⟩ (.int .i64 0) = wz from Hwz.out]
          have s0 := RZ.out.cell 0 rfl
          have s1 := RZ.out.cell 1 rfl
          have s2 := RZ.out.cell 2 rfl
          have s3 := RZ.out.cell 3 rfl
          have s4 := RZ.out.cell 4 rfl
          have s5 := RZ.out.cell 5 rfl
          have s6 := RZ.out.cell 6 rfl
          exact bodyPost_ret (v := repV (repE E)) (by simp [results, Tryz.results30, go_sem, s0, s1, s2, s3, s4, s5, s6]) rfl ⟨rfl, mt, ml, HZ.out, TZ.out⟩
end
end Go.Proofs.YtiomhdanmcnaeaaGreatDoor
