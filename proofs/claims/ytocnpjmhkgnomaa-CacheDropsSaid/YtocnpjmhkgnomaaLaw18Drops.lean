/- What is dropped is not known any more, dirty or not; all else is as it was. No condition. -/
import Derived.Test.YtocnpjmhkgnomaaRows
import Derived.Test.YtocnpjmhkgnomaaCd18

namespace Go.Proofs.Ytocnpjmhkgnomaa.cacheDrops
open Go.RowKit Go.ChangeShapes Go.WideShapes Go.ChangeAt
open Go.ChangeMaps (open_string shut_string)

set_option maxRecDepth 100000 in
set_option maxHeartbeats 8000000 in
theorem walk (A0 : Option Addr) (n0 c0 : Nat) (l0 : List Ch) (from_ to_ : Int) (w : World) (h0 : IsG w 2 encC A0 n0 l0 ∧ ∀ s ∈ l0, wfC s) (_hf : (Lit.int .i64 from_).wf = true) (_ht : (Lit.int .i64 to_).wf = true) :
    Calls Try.prog 6 #[.slice A0 n0 c0, .int .i64 from_, .int .i64 to_] w fun e w' => e = .returned (.bool true) ∧ Below w.heap.size w w' := by
  have H0 := Lib.hid h0
  clear h0 _hf _ht
  go_enter Try.func6, Try.ntmps6
  go_wp2_with fail
  refine (awk18_any _).mono ?_
  rintro e w1 ⟨rfl, b1⟩
  have B1 := Lib.hid b1
  clear b1
  go_wp2_with fail
  refine (New_any _).mono ?_
  rintro e w2 ⟨b, rfl, cn, ln, bn⟩
  have K2 : Hid (KC w w2 b none []) := Lib.hid ⟨cn, bnext B1.out bn, Nat.le_trans B1.out.size ln, (fun _ e => by cases e)⟩
  clear cn ln bn
  go_wp2_with fail
  have hl0 := Lib.hid (H0.out.1.below K2.out.below)
  refine (small18_any A0 n0 c0 l0 w2 hl0.out H0.out.2).mono ?_
  rintro e w3 ⟨A, n, c, rfl, gr, gn, gb⟩
  have hnl : (cutC l0).length = n := by
    obtain ⟨A', c', e⟩ := gr.shape
    injection e with _ e
    exact e.symm
  have hn12 : n ≤ 12 := by rw [← hnl]; exact cutC_length l0
  have Hnl := Lib.hid hnl
  have Hwf : Hid (∀ s ∈ cutC l0, (Lit.int .i64 s.1).wf = true) := Lib.hid (cutC_wf H0.out.2)
  obtain ⟨cs, Hcs⟩ : ∃ cs, Hid (cutC l0 = cs) := ⟨_, Lib.hid rfl⟩
  rw [Hcs.out] at Hnl Hwf gr
  obtain ⟨U, HU⟩ : ∃ U, Hid (((w3.alloc (.cells #[.string ⟨#[]⟩, .string ⟨#[]⟩, .string ⟨#[]⟩, .string ⟨#[]⟩, .string ⟨#[]⟩, .string ⟨#[]⟩, .string ⟨#[]⟩, .string ⟨#[]⟩, .string ⟨#[]⟩, .string ⟨#[]⟩, .string ⟨#[]⟩, .string ⟨#[]⟩, .string ⟨#[]⟩, .string ⟨#[]⟩, .string ⟨#[]⟩, .string ⟨#[]⟩, .string ⟨#[]⟩, .string ⟨#[]⟩, .string ⟨#[]⟩, .string ⟨#[]⟩, .string ⟨#[]⟩, .string ⟨#[]⟩, .string ⟨#[]⟩, .string ⟨#[]⟩, .string ⟨#[]⟩, .string ⟨#[]⟩, .string ⟨#[]⟩, .string ⟨#[]⟩, .string ⟨#[]⟩, .string ⟨#[]⟩, .string ⟨#[]⟩, .string ⟨#[]⟩] 48)).alloc (.cells #[.bool false, .bool false, .bool false, .bool false, .bool false, .bool false, .bool false, .bool false, .bool false, .bool false, .bool false, .bool false, .bool false, .bool false, .bool false, .bool false, .bool false, .bool false, .bool false, .bool false, .bool false, .bool false, .bool false, .bool false, .bool false, .bool false, .bool false, .bool false, .bool false, .bool false, .bool false, .bool false] 49)).alloc (.cells #[.bool false, .bool false, .bool false, .bool false, .bool false, .bool false, .bool false, .bool false, .bool false, .bool false, .bool false, .bool false, .bool false, .bool false, .bool false, .bool false, .bool false, .bool false, .bool false, .bool false, .bool false, .bool false, .bool false, .bool false, .bool false, .bool false, .bool false, .bool false, .bool false, .bool false, .bool false, .bool false] 49) = U) := ⟨_, Lib.hid rfl⟩
  obtain ⟨q, Hq⟩ : ∃ q, Hid (w3.heap.size = q) := ⟨_, Lib.hid rfl⟩
  obtain ⟨p, Hp⟩ : ∃ p, Hid (q + 1 = p) := ⟨_, Lib.hid rfl⟩
  obtain ⟨r, Hr⟩ : ∃ r, Hid (p + 1 = r) := ⟨_, Lib.hid rfl⟩
  have G3 : Hid (Lx w U b p q r none [] (fun _ => false) (fun _ => []) (fun _ => false) ∧ IsG U 2 encC A n cs ∧ Aside A n b none ∧ (∀ g off, A = some ⟨g, off, none⟩ → g ≠ p ∧ g ≠ q ∧ g ≠ r)) := Lib.hid (by
    have e1 : (w3.alloc (.cells #[.string ⟨#[]⟩, .string ⟨#[]⟩, .string ⟨#[]⟩, .string ⟨#[]⟩, .string ⟨#[]⟩, .string ⟨#[]⟩, .string ⟨#[]⟩, .string ⟨#[]⟩, .string ⟨#[]⟩, .string ⟨#[]⟩, .string ⟨#[]⟩, .string ⟨#[]⟩, .string ⟨#[]⟩, .string ⟨#[]⟩, .string ⟨#[]⟩, .string ⟨#[]⟩, .string ⟨#[]⟩, .string ⟨#[]⟩, .string ⟨#[]⟩, .string ⟨#[]⟩, .string ⟨#[]⟩, .string ⟨#[]⟩, .string ⟨#[]⟩, .string ⟨#[]⟩, .string ⟨#[]⟩, .string ⟨#[]⟩, .string ⟨#[]⟩, .string ⟨#[]⟩, .string ⟨#[]⟩, .string ⟨#[]⟩, .string ⟨#[]⟩, .string ⟨#[]⟩] 48)).heap.size = p := by rw [← Hp.out, ← Hq.out]; simp
    have e2 : ((w3.alloc (.cells #[.string ⟨#[]⟩, .string ⟨#[]⟩, .string ⟨#[]⟩, .string ⟨#[]⟩, .string ⟨#[]⟩, .string ⟨#[]⟩, .string ⟨#[]⟩, .string ⟨#[]⟩, .string ⟨#[]⟩, .string ⟨#[]⟩, .string ⟨#[]⟩, .string ⟨#[]⟩, .string ⟨#[]⟩, .string ⟨#[]⟩, .string ⟨#[]⟩, .string ⟨#[]⟩, .string ⟨#[]⟩, .string ⟨#[]⟩, .string ⟨#[]⟩, .string ⟨#[]⟩, .string ⟨#[]⟩, .string ⟨#[]⟩, .string ⟨#[]⟩, .string ⟨#[]⟩, .string ⟨#[]⟩, .string ⟨#[]⟩, .string ⟨#[]⟩, .string ⟨#[]⟩, .string ⟨#[]⟩, .string ⟨#[]⟩, .string ⟨#[]⟩, .string ⟨#[]⟩] 48)).alloc (.cells #[.bool false, .bool false, .bool false, .bool false, .bool false, .bool false, .bool false, .bool false, .bool false, .bool false, .bool false, .bool false, .bool false, .bool false, .bool false, .bool false, .bool false, .bool false, .bool false, .bool false, .bool false, .bool false, .bool false, .bool false, .bool false, .bool false, .bool false, .bool false, .bool false, .bool false, .bool false, .bool false] 49)).heap.size = r := by rw [← Hr.out, ← Hp.out, ← Hq.out]; simp
    have a1 := ar_new w3 32 (by decide) (.string (str [])) 48 #[.string ⟨#[]⟩, .string ⟨#[]⟩, .string ⟨#[]⟩, .string ⟨#[]⟩, .string ⟨#[]⟩, .string ⟨#[]⟩, .string ⟨#[]⟩, .string ⟨#[]⟩, .string ⟨#[]⟩, .string ⟨#[]⟩, .string ⟨#[]⟩, .string ⟨#[]⟩, .string ⟨#[]⟩, .string ⟨#[]⟩, .string ⟨#[]⟩, .string ⟨#[]⟩, .string ⟨#[]⟩, .string ⟨#[]⟩, .string ⟨#[]⟩, .string ⟨#[]⟩, .string ⟨#[]⟩, .string ⟨#[]⟩, .string ⟨#[]⟩, .string ⟨#[]⟩, .string ⟨#[]⟩, .string ⟨#[]⟩, .string ⟨#[]⟩, .string ⟨#[]⟩, .string ⟨#[]⟩, .string ⟨#[]⟩, .string ⟨#[]⟩, .string ⟨#[]⟩] rfl
    have a2 := ar_new (w3.alloc (.cells #[.string ⟨#[]⟩, .string ⟨#[]⟩, .string ⟨#[]⟩, .string ⟨#[]⟩, .string ⟨#[]⟩, .string ⟨#[]⟩, .string ⟨#[]⟩, .string ⟨#[]⟩, .string ⟨#[]⟩, .string ⟨#[]⟩, .string ⟨#[]⟩, .string ⟨#[]⟩, .string ⟨#[]⟩, .string ⟨#[]⟩, .string ⟨#[]⟩, .string ⟨#[]⟩, .string ⟨#[]⟩, .string ⟨#[]⟩, .string ⟨#[]⟩, .string ⟨#[]⟩, .string ⟨#[]⟩, .string ⟨#[]⟩, .string ⟨#[]⟩, .string ⟨#[]⟩, .string ⟨#[]⟩, .string ⟨#[]⟩, .string ⟨#[]⟩, .string ⟨#[]⟩, .string ⟨#[]⟩, .string ⟨#[]⟩, .string ⟨#[]⟩, .string ⟨#[]⟩] 48)) 32 (by decide) (.bool false) 49 #[.bool false, .bool false, .bool false, .bool false, .bool false, .bool false, .bool false, .bool false, .bool false, .bool false, .bool false, .bool false, .bool false, .bool false, .bool false, .bool false, .bool false, .bool false, .bool false, .bool false, .bool false, .bool false, .bool false, .bool false, .bool false, .bool false, .bool false, .bool false, .bool false, .bool false, .bool false, .bool false] rfl
    have a3 := ar_new ((w3.alloc (.cells #[.string ⟨#[]⟩, .string ⟨#[]⟩, .string ⟨#[]⟩, .string ⟨#[]⟩, .string ⟨#[]⟩, .string ⟨#[]⟩, .string ⟨#[]⟩, .string ⟨#[]⟩, .string ⟨#[]⟩, .string ⟨#[]⟩, .string ⟨#[]⟩, .string ⟨#[]⟩, .string ⟨#[]⟩, .string ⟨#[]⟩, .string ⟨#[]⟩, .string ⟨#[]⟩, .string ⟨#[]⟩, .string ⟨#[]⟩, .string ⟨#[]⟩, .string ⟨#[]⟩, .string ⟨#[]⟩, .string ⟨#[]⟩, .string ⟨#[]⟩, .string ⟨#[]⟩, .string ⟨#[]⟩, .string ⟨#[]⟩, .string ⟨#[]⟩, .string ⟨#[]⟩, .string ⟨#[]⟩, .string ⟨#[]⟩, .string ⟨#[]⟩, .string ⟨#[]⟩] 48)).alloc (.cells #[.bool false, .bool false, .bool false, .bool false, .bool false, .bool false, .bool false, .bool false, .bool false, .bool false, .bool false, .bool false, .bool false, .bool false, .bool false, .bool false, .bool false, .bool false, .bool false, .bool false, .bool false, .bool false, .bool false, .bool false, .bool false, .bool false, .bool false, .bool false, .bool false, .bool false, .bool false, .bool false] 49)) 32 (by decide) (.bool false) 49 #[.bool false, .bool false, .bool false, .bool false, .bool false, .bool false, .bool false, .bool false, .bool false, .bool false, .bool false, .bool false, .bool false, .bool false, .bool false, .bool false, .bool false, .bool false, .bool false, .bool false, .bool false, .bool false, .bool false, .bool false, .bool false, .bool false, .bool false, .bool false, .bool false, .bool false, .bool false, .bool false] rfl
    rw [Hq.out] at a1
    rw [e1] at a2
    rw [e2] at a3
    rw [← HU.out]
    have lb := K2.out.ca.lt
    have lw := K2.out.below.size
    have lg := gb.size
    have hp := Hp.out
    have hq := Hq.out
    have hr := Hr.out
    have KU := ((((K2.out.later gb).later (balloc (Below.refl _ _) (.cells #[.string ⟨#[]⟩, .string ⟨#[]⟩, .string ⟨#[]⟩, .string ⟨#[]⟩, .string ⟨#[]⟩, .string ⟨#[]⟩, .string ⟨#[]⟩, .string ⟨#[]⟩, .string ⟨#[]⟩, .string ⟨#[]⟩, .string ⟨#[]⟩, .string ⟨#[]⟩, .string ⟨#[]⟩, .string ⟨#[]⟩, .string ⟨#[]⟩, .string ⟨#[]⟩, .string ⟨#[]⟩, .string ⟨#[]⟩, .string ⟨#[]⟩, .string ⟨#[]⟩, .string ⟨#[]⟩, .string ⟨#[]⟩, .string ⟨#[]⟩, .string ⟨#[]⟩, .string ⟨#[]⟩, .string ⟨#[]⟩, .string ⟨#[]⟩, .string ⟨#[]⟩, .string ⟨#[]⟩, .string ⟨#[]⟩, .string ⟨#[]⟩, .string ⟨#[]⟩] 48))).later (balloc (Below.refl _ _) (.cells #[.bool false, .bool false, .bool false, .bool false, .bool false, .bool false, .bool false, .bool false, .bool false, .bool false, .bool false, .bool false, .bool false, .bool false, .bool false, .bool false, .bool false, .bool false, .bool false, .bool false, .bool false, .bool false, .bool false, .bool false, .bool false, .bool false, .bool false, .bool false, .bool false, .bool false, .bool false, .bool false] 49))).later (balloc (Below.refl _ _) (.cells #[.bool false, .bool false, .bool false, .bool false, .bool false, .bool false, .bool false, .bool false, .bool false, .bool false, .bool false, .bool false, .bool false, .bool false, .bool false, .bool false, .bool false, .bool false, .bool false, .bool false, .bool false, .bool false, .bool false, .bool false, .bool false, .bool false, .bool false, .bool false, .bool false, .bool false, .bool false, .bool false] 49)))
    refine ⟨⟨⟨KU, in32_nil, tie_nil, a2.below (balloc (Below.refl _ _) _), (a1.below (balloc (Below.refl _ _) _)).below (balloc (Below.refl _ _) _), by omega, by omega, by omega, (fun _ e => by cases e), (fun _ e => by cases e), by omega, by omega⟩, dtie_nil, a3, by omega, by omega, by omega, (fun _ e => by cases e), by omega⟩, (((gr.is encC_ok).1.below (balloc (Below.refl _ _) _)).below (balloc (Below.refl _ _) _)).below (balloc (Below.refl _ _) _), fun g off e _ => ⟨?_, by simp⟩, fun g off e => ?_⟩
    · have h1 := gn g (by rw [e]; rfl)
      omega
    · have h1 := gn g (by rw [e]; rfl)
      have h2 := gr.lt (g := g) (by rw [e]; rfl)
      omega)
  clear gr gn gb hnl
  go_wp2_with fail
  rw [HU.out, Hq.out, Hp.out, Hr.out]
  go_loopw [13] (fun i wr => ∃ (j : Nat) (m : Option Nat) (L : List Li) (f : Nat → Bool) (s : Nat → List UInt8) (d : Nat → Bool), j ≤ n ∧ i = .int .i64 j ∧ Hid (Lx w wr b p q r m L f s d ∧ L.length ≤ j ∧ IsG wr 2 encC A n cs ∧ Aside A n b m)) (fun i _ => n - (intOf i).toNat)
  case atStart => exact ⟨0, none, [], _, _, _, Nat.zero_le _, rfl, Lib.hid ⟨G3.out.1, Nat.le_refl _, G3.out.2.1, G3.out.2.2.1⟩⟩
  case round =>
    obtain ⟨j, m, L, f, s, d, hj, rfl, HC⟩ := hrel
    by_cases hlt : j < n
    · obtain ⟨x, Hx⟩ : ∃ x, Hid (cs[j]? = some x) := ⟨cs[j]'(by have := Hnl.out; omega), Lib.hid (List.getElem?_eq_getElem _)⟩
      obtain ⟨g, off, rfl, hgl, hc⟩ := HC.out.2.2.1.cells (by omega)
      have c0 := hc j x 0 _ Hx.out rfl
      have c1 := hc j x 1 _ Hx.out rfl
      rw [Nat.add_zero] at c0
      have Hg3 := Lib.hid (G3.out.2.2.2 g off rfl)
      obtain ⟨k, Hk, hk31⟩ := and_mask x.1 31 (by decide)
      have hk : bits .and .i64 x.1 31 = (k : Int) := Hk.out
      have hk32 : k < 32 := by omega
      have hk32' : (k : Int) < 32 := by omega
      have hkw : Hid ((Lit.int .i64 (k : Int)).wf = true) := Lib.hid (WalkArith.wf_i64 (by omega))
      have hgp := Hg3.out.1
      have hgq := Hg3.out.2.1
      have hgr := Hg3.out.2.2
      have hpq := HC.out.1.lw.pq
      have hrp := HC.out.1.np
      have hrq := HC.out.1.nq
      clear hc
      by_cases hpar : j % 2 = 0
      · go_wp2_with fail
        refine (one_any _ x.2 _).mono ?_
        rintro e w4 ⟨rfl, b4⟩
        obtain ⟨u4, Hu4⟩ : ∃ u, Hid (w4.alloc (.cells #[.int .i64 (k : Int), .string (str x.2)] 36) = u) := ⟨_, Lib.hid rfl⟩
        obtain ⟨p4, Hp4⟩ : ∃ p, Hid (w4.heap.size = p) := ⟨_, Lib.hid rfl⟩
        have G4 := Lib.hid ((HC.out.1.lw.kc.later b4).box ((k : Int), x.2) Hu4.out Hp4.out)
        have L4 : Hid (Lx w u4 b p q r m L f s d ∧ IsG u4 2 encC (some ⟨g, off, none⟩) n cs) := Lib.hid ⟨(HC.out.1.later b4).later G4.out.2.2.2, (HC.out.2.2.1.below b4).below G4.out.2.2.2⟩
        clear b4 c0 c1
        go_wp2_with fail
        rw [Hu4.out, Hp4.out]
        refine (Put_any G4.out.2.1.ca _ 1 1 [((k : Int), x.2)] G4.out.1 G4.out.2.2.1 (by intro y hy; simp at hy; subst hy; exact hkw.out) (by have := HC.out.2.1; unfold maxLen; omega)).mono ?_
        rintro e v ⟨rfl, m5, c5, t5⟩
        have c5' : Ca v b m5 (setL L ((k : Int), x.2, true)) := c5
        obtain ⟨ap, aq, ar⟩ := L4.out.1.ars t5
        have e1 : v.cell? ⟨p, k, none⟩ = some (.bool (f k)) := ap.cell k (by omega)
        have e2 : v.cell? ⟨q, k, none⟩ = some (.string (str (s k))) := aq.cell k (by omega)
        have e3 : v.cell? ⟨r, k, none⟩ = some (.bool (d k)) := ar.cell k (by omega)
        have f1 := ap.fz k (by omega)
        have f2 := aq.fz k (by omega)
        have f3 := ar.fz k (by omega)
        have g5 := L4.out.2.to HC.out.2.2.2 t5
        obtain ⟨g', off', eg, hgl', hc⟩ := g5.cells (by omega)
        injection eg with eg
        injection eg with eg1 eg2
        subst eg1 eg2
        have c1 := hc j x 1 _ Hx.out rfl
        obtain ⟨v', Hv'⟩ : ∃ u, Hid (((v.setCell ⟨q, k, none⟩ (.string (str x.2))).setCell ⟨p, k, none⟩ (.bool true)).setCell ⟨r, k, none⟩ (.bool true) = u) := ⟨_, Lib.hid rfl⟩
        have N5 : Hid (Lx w v' b p q r m5 (setL L ((k : Int), x.2, true)) (upd f k true) (upd s k x.2) (upd d k true) ∧ (setL L ((k : Int), x.2, true)).length ≤ j + 1 ∧ IsG v' 2 encC (some ⟨g, off, none⟩) n cs ∧ Aside (some ⟨g, off, none⟩) n b m5) := Lib.hid (by
          have M : Mod (fun y => y = p ∨ y = q ∨ y = r) v v' := by
            rw [← Hv'.out]
            exact m3 v (.inr (.inr rfl)) k _ (m3 v (.inl rfl) k _ (m3 v (.inr (.inl rfl)) k _ (Mod.refl _ v)))
          have ap' : Ar v' p 32 (gB (upd f k true)) := by
            rw [← Hv'.out]
            exact ((ap.apart (fun e => hpq e.symm) _).set hk32 _ (gB_upd f k true)).apart hrp _
          have aq' : Ar v' q 32 (gS (upd s k x.2)) := by
            rw [← Hv'.out]
            exact ((aq.set hk32 _ (gS_upd s k x.2)).apart hpq _).apart hrq _
          have ar' : Ar v' r 32 (gB (upd d k true)) := by
            rw [← Hv'.out]
            exact ((ar.apart (fun e => hrq e.symm) _).apart (fun e => hrp e.symm) _).set hk32 _ (gB_upd d k true)
          refine ⟨L4.out.1.mk' c5' t5 M ap' aq' ar' (HC.out.1.lw.rng.set hk32 _) (HC.out.1.lw.tie.set HC.out.1.lw.kc.ca.rise k x.2 true) (HC.out.1.dt.set HC.out.1.lw.kc.ca.rise k x.2), Nat.le_trans (setL_length_le _ _) (by have := HC.out.2.1; omega), ?_, HC.out.2.2.2.to t5 L4.out.2⟩
          refine g5.later M (fun y o e _ hs => ?_)
          injection e with e
          injection e with e
          subst e
          rcases hs with e | e | e
          · exact hgp e
          · exact hgq e
          · exact hgr e)
        clear c5 c5' t5 hc g5 hgl' ap aq ar
        go_wp2_with fail
        rw [Hv'.out]
        go_roundw
        case rel => exact ⟨j + 1, m5, _, _, _, _, by omega, by go_num, N5⟩
        case measure => simp [intOf]; omega
      · go_wp2_with fail
        obtain ⟨lk, Hlk⟩ : ∃ t, Hid ((look L (k : Int)).isNone = t) := ⟨_, Lib.hid rfl⟩
        refine (Load_any HC.out.1.lw.kc.ca (k : Int) hkw.out x.2 (by have := HC.out.2.1; unfold maxLen; omega)).mono ?_
        rw [Hlk.out]
        rintro e v ⟨rfl, m5, c5, t5⟩
        obtain ⟨ap, aq, ar⟩ := HC.out.1.ars t5
        have e1 : v.cell? ⟨p, k, none⟩ = some (.bool (f k)) := ap.cell k (by omega)
        have e2 : v.cell? ⟨q, k, none⟩ = some (.string (str (s k))) := aq.cell k (by omega)
        have f1 := ap.fz k (by omega)
        have f2 := aq.fz k (by omega)
        have g5 := HC.out.2.2.1.to HC.out.2.2.2 t5
        obtain ⟨g', off', eg, hgl', hc⟩ := g5.cells (by omega)
        injection eg with eg
        injection eg with eg1 eg2
        subst eg1 eg2
        have c1 := hc j x 1 _ Hx.out rfl
        have D5 : Hid (DTie (loadL L (k : Int) x.2) d) := Lib.hid (HC.out.1.dt.load HC.out.1.lw.kc.ca.rise k x.2)
        have G5 := Lib.hid (And.intro c5 (And.intro t5 (And.intro g5 (And.intro ap (And.intro aq ar)))))
        clear c5 t5 hc g5 hgl' ap aq ar
        cases lk
        · have HL : Hid (loadL L (k : Int) x.2 = L) := Lib.hid (by
            rw [loadL, if_neg]
            intro e
            have := Hlk.out
            rw [e] at this
            cases this)
          have N5 : Hid (Lx w v b p q r m5 L f s d ∧ L.length ≤ j + 1 ∧ IsG v 2 encC (some ⟨g, off, none⟩) n cs ∧ Aside (some ⟨g, off, none⟩) n b m5) := Lib.hid (by
            have c5 := G5.out.1
            rw [HL.out] at c5
            exact ⟨HC.out.1.mk' c5 G5.out.2.1 (Mod.refl _ _) G5.out.2.2.2.1 G5.out.2.2.2.2.1 G5.out.2.2.2.2.2 HC.out.1.lw.rng HC.out.1.lw.tie HC.out.1.dt, by have := HC.out.2.1; omega, G5.out.2.2.1, HC.out.2.2.2.to G5.out.2.1 HC.out.2.2.1⟩)
          go_wp2_with fail
          go_roundw
          case rel => exact ⟨j + 1, m5, _, _, _, _, by omega, by go_num, N5⟩
          case measure => simp [intOf]; omega
        · have HN : Hid (look L (k : Int) = none) := Lib.hid (by have := Hlk.out; cases hq : look L (k : Int) with
            | none => rfl
            | some v => rw [hq] at this; cases this)
          have hfk : f k = false := by rw [HC.out.1.lw.tie.is k hk32, HN.out]; rfl
          rw [hfk] at e1
          obtain ⟨v', Hv'⟩ : ∃ u, Hid ((v.setCell ⟨q, k, none⟩ (.string (str x.2))).setCell ⟨p, k, none⟩ (.bool true) = u) := ⟨_, Lib.hid rfl⟩
          have N5 : Hid (Lx w v' b p q r m5 (loadL L (k : Int) x.2) (upd f k true) (upd s k x.2) d ∧ (loadL L (k : Int) x.2).length ≤ j + 1 ∧ IsG v' 2 encC (some ⟨g, off, none⟩) n cs ∧ Aside (some ⟨g, off, none⟩) n b m5) := Lib.hid (by
            have M : Mod (fun y => y = p ∨ y = q ∨ y = r) v v' := by
              rw [← Hv'.out]
              exact m3 v (.inl rfl) k _ (m3 v (.inr (.inl rfl)) k _ (Mod.refl _ v))
            have hld : loadL L (k : Int) x.2 = setL L ((k : Int), x.2, false) := by rw [loadL, if_pos HN.out]
            have ap' : Ar v' p 32 (gB (upd f k true)) := by
              rw [← Hv'.out]
              exact (G5.out.2.2.2.1.apart (fun e => hpq e.symm) _).set hk32 _ (gB_upd f k true)
            have aq' : Ar v' q 32 (gS (upd s k x.2)) := by
              rw [← Hv'.out]
              exact (G5.out.2.2.2.2.1.set hk32 _ (gS_upd s k x.2)).apart hpq _
            have ar' : Ar v' r 32 (gB d) := by
              rw [← Hv'.out]
              exact (G5.out.2.2.2.2.2.apart (fun e => hrq e.symm) _).apart (fun e => hrp e.symm) _
            refine ⟨HC.out.1.mk' G5.out.1 G5.out.2.1 M ap' aq' ar' (by rw [hld]; exact HC.out.1.lw.rng.set hk32 _) (by rw [hld]; exact HC.out.1.lw.tie.set HC.out.1.lw.kc.ca.rise k x.2 false) D5.out, Nat.le_trans (loadL_length _ _ _) (by have := HC.out.2.1; omega), ?_, HC.out.2.2.2.to G5.out.2.1 HC.out.2.2.1⟩
            refine G5.out.2.2.1.later M (fun y o e _ hs => ?_)
            injection e with e
            injection e with e
            subst e
            rcases hs with e | e | e
            · exact hgp e
            · exact hgq e
            · exact hgr e)
          go_wp2_with fail
          rw [Hv'.out]
          go_roundw
          case rel => exact ⟨j + 1, m5, _, _, _, _, by omega, by go_num, N5⟩
          case measure => simp [intOf]; omega
    · obtain rfl : j = n := by omega
      clear hlt
      obtain ⟨a, Ha, ha32⟩ := rem33 from_
      obtain ⟨bb, Hb, hb32⟩ := rem33 to_
      have ha := Ha.out
      have hb := Hb.out
      obtain ⟨wX, rfl⟩ : ∃ x, x = wr := ⟨_, rfl⟩
      go_wp2_with fail
      go_loopw [17, 18, 19] (fun gq lq i wy => ∃ t G F : Nat, t ≤ 32 ∧ i = .int .i64 t ∧ gq = .int .i64 (G : Int) ∧ lq = .int .i64 (F : Int) ∧ Hid (G = cntTo L (fun x => inR a bb x.1 && x.2.2) t ∧ F = cntTo L (fun x => !inR a bb x.1) t ∧ Ar wy p 32 (gB (offF a bb f t)) ∧ Mod (· = p) wX wy)) (fun _ _ i _ => 32 - (intOf i).toNat)
      case atStart => exact ⟨0, 0, 0, by omega, rfl, rfl, rfl, Lib.hid ⟨(cnt_zero HC.out.1.lw.rng _).symm, (cnt_zero HC.out.1.lw.rng _).symm, by rw [offF_zero]; exact HC.out.1.lw.ab, Mod.refl _ _⟩⟩
      case round =>
        obtain ⟨t, G, F, ht, rfl, rfl, rfl, HT⟩ := hrel
        have hG : G ≤ 12 := by rw [HT.out.1]; exact Nat.le_trans (cnt_le _ _ _) (Nat.le_trans HC.out.2.1 hn12)
        have hF : F ≤ 12 := by rw [HT.out.2.1]; exact Nat.le_trans (cnt_le _ _ _) (Nat.le_trans HC.out.2.1 hn12)
        by_cases htl : t < 32
        · have htl' : (t : Int) < 32 := by omega
          have e1 : wr.cell? ⟨p, t, none⟩ = some (.bool (offF a bb f t t)) := HT.out.2.2.1.cell t htl
          rw [offF_at] at e1
          have f1 := HT.out.2.2.1.fz t htl
          have e3 : wr.cell? ⟨r, t, none⟩ = some (.bool (d t)) := (HC.out.1.off HT.out.2.2.2).2.2.cell t htl
          have Hgs := Lib.hid (gone_step HC.out.1.lw.kc.ca.rise HC.out.1.dt a bb htl)
          have Hls := Lib.hid (left_step HC.out.1.lw.kc.ca.rise HC.out.1.lw.tie a bb htl)
          by_cases hin : a ≤ t ∧ t < bb
          · have hin1 : (a : Int) ≤ t := by omega
            have hin2 : (t : Int) < bb := by omega
            have hdb : (decide (a ≤ t) && decide (t < bb)) = true := by simp [hin]
            rw [hdb] at Hgs Hls
            have Hin := Lib.hid hin
            clear hin hdb
            have NM : Hid (Ar (wr.setCell ⟨p, t, none⟩ (.bool false)) p 32 (gB (offF a bb f (t + 1))) ∧ Mod (· = p) wX (wr.setCell ⟨p, t, none⟩ (.bool false))) := Lib.hid
              ⟨HT.out.2.2.1.set htl _ (offF_in Hin.out), HT.out.2.2.2.set1 _⟩
            have NF : Hid (F = cntTo L (fun x => !inR a bb x.1) (t + 1)) := Lib.hid (by rw [Hls.out, HT.out.2.1]; simp)
            cases hd : d t
            · rw [hd] at e3 Hgs
              have NG : Hid (G = cntTo L (fun x => inR a bb x.1 && x.2.2) (t + 1)) := Lib.hid (by rw [Hgs.out, HT.out.1]; simp)
              clear hd
              go_wp2_with fail
              go_roundw
              case rel => exact ⟨t + 1, G, F, by omega, by go_num, rfl, rfl, Lib.hid ⟨NG.out, NF.out, NM.out⟩⟩
              case measure => simp [intOf]; omega
            · rw [hd] at e3 Hgs
              have NG : Hid (G + 1 = cntTo L (fun x => inR a bb x.1 && x.2.2) (t + 1)) := Lib.hid (by rw [Hgs.out, HT.out.1]; simp)
              clear hd
              go_wp2_with fail
              go_roundw
              case rel => exact ⟨t + 1, G + 1, F, by omega, by go_num, by go_num, rfl, Lib.hid ⟨NG.out, NF.out, NM.out⟩⟩
              case measure => simp [intOf]; omega
          · have hdb : (decide (a ≤ t) && decide (t < bb)) = false := by simp; omega
            rw [hdb] at Hgs Hls
            have NM : Hid (Ar wr p 32 (gB (offF a bb f (t + 1))) ∧ Mod (· = p) wX wr) := Lib.hid ⟨by rw [offF_out hin]; exact HT.out.2.2.1, HT.out.2.2.2⟩
            have NG : Hid (G = cntTo L (fun x => inR a bb x.1 && x.2.2) (t + 1)) := Lib.hid (by rw [Hgs.out, HT.out.1]; simp)
            have hor : (t : Int) < a ∨ ((a : Int) ≤ t ∧ (bb : Int) ≤ t) := by omega
            clear hdb hin
            cases hf : f t
            · rw [hf] at e1 Hls
              have NF : Hid (F = cntTo L (fun x => !inR a bb x.1) (t + 1)) := Lib.hid (by rw [Hls.out, HT.out.2.1]; simp)
              clear hf
              rcases hor with h1 | ⟨h1, h2⟩
              all_goals
                go_wp2_with fail
                go_roundw
                case rel => exact ⟨t + 1, G, F, by omega, by go_num, rfl, rfl, Lib.hid ⟨NG.out, NF.out, NM.out⟩⟩
                case measure => simp [intOf]; omega
            · rw [hf] at e1 Hls
              have NF : Hid (F + 1 = cntTo L (fun x => !inR a bb x.1) (t + 1)) := Lib.hid (by rw [Hls.out, HT.out.2.1]; simp)
              clear hf
              rcases hor with h1 | ⟨h1, h2⟩
              all_goals
                go_wp2_with fail
                go_roundw
                case rel => exact ⟨t + 1, G, F + 1, by omega, by go_num, rfl, by go_num, Lib.hid ⟨NG.out, NF.out, NM.out⟩⟩
                case measure => simp [intOf]; omega
        · obtain rfl : t = 32 := by omega
          have O := Lib.hid (HC.out.1.off HT.out.2.2.2)
          have hGd : Hid ((dirtyL L (a : Int) (bb : Int)).length = G) := Lib.hid (by rw [dirtyN, HT.out.1, cnt_all HC.out.1.lw.rng])
          have hFd : Hid ((dropL L (a : Int) (bb : Int)).length = F) := Lib.hid (by rw [dropN, HT.out.2.1, cnt_all HC.out.1.lw.rng])
          go_wp2_with fail
          refine (Drop_any O.out.1.ca (a : Int) (bb : Int) (by have := HC.out.2.1; omega)).mono ?_
          rw [hGd.out]
          rintro e wD ⟨rfl, cD, tD⟩
          have KD : Hid (KC w wD b m (dropL L a bb)) := Lib.hid (O.out.1.to cD tD)
          have AD : Hid (Ar wD p 32 (gB (offF a bb f 32)) ∧ Ar wD q 32 (gS s)) := Lib.hid ⟨HT.out.2.2.1.later tD.mod (fun e => e.elim HC.out.1.lw.pb fun e => HC.out.1.lw.pm p e rfl), O.out.2.1.later tD.mod (fun e => e.elim HC.out.1.lw.qb fun e => HC.out.1.lw.qm q e rfl)⟩
          clear cD tD
          go_wp2_with fail
          go_loopw [21] (fun i wy => ∃ t : Nat, t ≤ 32 ∧ i = .int .i64 t ∧ Hid (Below wD.heap.size wD wy)) (fun i _ => 32 - (intOf i).toNat)
          case atStart => exact ⟨0, by omega, rfl, Lib.hid (Below.refl _ _)⟩
          case round =>
            obtain ⟨z, hz, rfl, HB⟩ := hrel
            by_cases hzl : z < 32
            · have hzl' : (z : Int) < 32 := by omega
              obtain ⟨tx, Htx⟩ : ∃ x, Hid ((kvOf (dropL L a bb) (z : Int)).1 = x) := ⟨_, Lib.hid rfl⟩
              obtain ⟨fz, Hfz⟩ : ∃ x, Hid (offF a bb f 32 z = x) := ⟨_, Lib.hid rfl⟩
              have hkn := known_drop HC.out.1.lw.kc.ca.rise HC.out.1.lw.tie a bb hzl
              rw [Hfz.out, Htx.out] at hkn
              have Hkn := Lib.hid hkn
              clear hkn
              go_wp2_with fail
              refine (Get_any (KD.out.later HB.out).ca (z : Int) (WalkArith.wf_i64 (by omega))).mono ?_
              rw [Htx.out, Hkn.out.1]
              rintro e wG ⟨rfl, bG⟩
              have HBG : Hid (Below wD.heap.size wD wG) := Lib.hid (bnext HB.out bG)
              have e1 : wG.cell? ⟨p, z, none⟩ = some (.bool fz) := by rw [← Hfz.out]; exact (AD.out.1.below HBG.out).cell z hzl
              have e2 : wG.cell? ⟨q, z, none⟩ = some (.string (str (s z))) := (AD.out.2.below HBG.out).cell z hzl
              clear bG
              cases fz
              · go_wp2_with fail
                go_roundw
                case rel => exact ⟨z + 1, by omega, by go_num, HBG⟩
                case measure => simp [intOf]; omega
              · rw [← Hkn.out.2 rfl] at e2
                go_wp2_with fail
                go_roundw
                case rel => exact ⟨z + 1, by omega, by go_num, HBG⟩
                case measure => simp [intOf]; omega
            · obtain rfl : z = 32 := by omega
              have KE := Lib.hid (KD.out.later HB.out)
              go_wp2_with fail
              refine (CLen_any KE.out.ca).mono ?_
              rw [hFd.out]
              rintro e wE ⟨rfl, rfl⟩
              go_wp2
              go_ret
              exact ⟨rfl, KE.out.below⟩

theorem own : ownKnob Try.prog.godebug = none := by kernel_rfl
theorem laidOut : laidOutB Try.prog = true := by kernel_rfl
set_option maxRecDepth 100000 in
theorem lifted (os : Os) (started : os.Started) (H : Type) (enc : TypeId × Value → H) :
    ReturnsInHanded {} Try.checked os 6 .any (Rows.cacheDropsSpec.pre6 enc Try.prog Try.f6 Rows.cacheDropsRow.domain false) (Rows.cacheDropsSpec.post enc Try.prog Try.f6 false true false false) := by
  refine returnsInHanded_of_change (C := Try.checked) own started (by kernel_rfl) Try.func6
    (ChangeSpec.witness6 (enc := enc) (C := Try.checked) false ⟨#[], #[.slice none 0 0, .int .i64 0, .int .i64 0], []⟩ 8 (by kernel_rfl) (by kernel_rfl) (by kernel_rfl) (by kernel_rfl)) ?_
  intro W base args ds gs before hval0 hW hcnd _
  have hval : ∀ (j : Nat) t v, Try.f6.params[j]? = some t → args[j]? = some v → Value.okWide Try.prog W .any base t v := hval0
  have hW' := hW
  obtain ⟨p, q, hA0, hV, rfl, hfz, hnd⟩ := hW
  have hA : DataW.TrodAll enc Try.prog W 0 (fun _ => true) true Try.f6.params.toList args.toList ds p := hA0
  rw [Try.params6] at hA hval
  obtain ⟨v0, vs0, d0, ds0, p0, q0, hargs, rfl, rfl, h0, r0⟩ := trodAll_cons hA
  obtain ⟨v1, vs1, d1, ds1, p1, q1, rfl, rfl, rfl, h1, r1⟩ := trodAll_cons r0
  obtain ⟨v2, vs2, d2, ds2, p2, q2, rfl, rfl, rfl, h2, r2⟩ := trodAll_cons r1
  obtain ⟨rfl, rfl, rfl⟩ := trodAll_nil r2
  obtain rfl : args = #[v0, v1, v2] := by cases args; simp_all
  obtain ⟨x0, len0, cap0, a0, rfl, w0⟩ := opens_chs (hval 0 30 v0 rfl rfl) h0
  obtain ⟨a1, rfl, rfl, rfl, w1⟩ := open_int Try.underlying3 (hval 1 3 v1 rfl rfl) h1
  obtain ⟨a2, rfl, rfl, rfl, w2⟩ := open_int Try.underlying3 (hval 2 3 v2 rfl rfl) h2
  clear hA0 hval0
  refine (walk x0 len0 cap0 a0 a1 a2 W w0 w1 w2).mono fun e W' ⟨he, bel⟩ => ?_
  subst he
  exact ⟨_, rfl, law_post laidOut (by rw [Try.params6]; decide +kernel) rfl Try.underlying4 rfl hW' (fun _ => rfl) bel⟩
theorem over : Rows.cacheDropsRow.holds Try.pinned (OpenSpec.ofChange Rows.cacheDropsSpec) :=
  OpenClaim.holds_of_wide 6 Try.f6 rfl rfl rfl rfl rfl rfl rfl ⟨rfl, rfl, rfl, rfl, rfl⟩ rfl rfl rfl rfl rfl (by kernel_rfl) Try.func6 (by kernel_rfl)
    (of_decide_eq_true (by kernel_rfl)) (by unfold Func.isWrapper; first | (rw [if_pos (by decide +kernel)]; kernel_rfl) | (rw [if_neg (by decide +kernel)]; exact ⟨rfl, rfl⟩))
    (fun os started H enc _ => lifted os started H enc)
theorem proved : Rows.CacheDropsSaid := over
end Go.Proofs.Ytocnpjmhkgnomaa.cacheDrops
