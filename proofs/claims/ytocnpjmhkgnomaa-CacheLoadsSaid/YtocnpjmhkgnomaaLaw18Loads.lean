/- What is known is never loaded over, clean or dirty; what is loaded is clean. No condition. -/
import Derived.Test.YtocnpjmhkgnomaaRows
import Derived.Test.YtocnpjmhkgnomaaCl18

namespace Go.Proofs.Ytocnpjmhkgnomaa.cacheLoads
open Go.RowKit Go.ChangeShapes Go.WideShapes Go.ChangeAt
open Go.ChangeMaps (open_string shut_string)

set_option maxRecDepth 100000 in
set_option maxHeartbeats 8000000 in
theorem walk (A0 : Option Addr) (n0 c0 : Nat) (l0 : List Ch) (A1 : Option Addr) (n1 c1 : Nat) (l1 : List Ch) (w : World) (h0 : IsG w 2 encC A0 n0 l0 ∧ ∀ s ∈ l0, wfC s) (h1 : IsG w 2 encC A1 n1 l1 ∧ ∀ s ∈ l1, wfC s) :
    Calls Try.prog 7 #[.slice A0 n0 c0, .slice A1 n1 c1] w fun e w' => e = .returned (.bool true) ∧ Below w.heap.size w w' := by
  have H0 := Lib.hid h0
  have H1 := Lib.hid h1
  clear h0 h1
  go_enter Try.func7, Try.ntmps7
  go_wp2_with fail
  refine (awk18_any _).mono ?_
  rintro e w1 ⟨rfl, b1⟩
  have B1 := Lib.hid b1
  clear b1
  go_wp2_with fail
  refine (New_any _).mono ?_
  rintro e w2 ⟨b, rfl, cn, ln, bn⟩
  have K2 : Hid (KC w w2 b none []) := Lib.hid ⟨cn, bnext B1.out bn, Nat.le_trans B1.out.size ln, (fun _ e => by cases e)⟩
  clear cn ln bn
  obtain ⟨U, HU⟩ : ∃ U, Hid ((w2.alloc (.cells #[.bool false, .bool false, .bool false, .bool false, .bool false, .bool false, .bool false, .bool false, .bool false, .bool false, .bool false, .bool false, .bool false, .bool false, .bool false, .bool false, .bool false, .bool false, .bool false, .bool false, .bool false, .bool false, .bool false, .bool false, .bool false, .bool false, .bool false, .bool false, .bool false, .bool false, .bool false, .bool false] 49)).alloc (.cells #[.string ⟨#[]⟩, .string ⟨#[]⟩, .string ⟨#[]⟩, .string ⟨#[]⟩, .string ⟨#[]⟩, .string ⟨#[]⟩, .string ⟨#[]⟩, .string ⟨#[]⟩, .string ⟨#[]⟩, .string ⟨#[]⟩, .string ⟨#[]⟩, .string ⟨#[]⟩, .string ⟨#[]⟩, .string ⟨#[]⟩, .string ⟨#[]⟩, .string ⟨#[]⟩, .string ⟨#[]⟩, .string ⟨#[]⟩, .string ⟨#[]⟩, .string ⟨#[]⟩, .string ⟨#[]⟩, .string ⟨#[]⟩, .string ⟨#[]⟩, .string ⟨#[]⟩, .string ⟨#[]⟩, .string ⟨#[]⟩, .string ⟨#[]⟩, .string ⟨#[]⟩, .string ⟨#[]⟩, .string ⟨#[]⟩, .string ⟨#[]⟩, .string ⟨#[]⟩] 48) = U) := ⟨_, Lib.hid rfl⟩
  obtain ⟨p, Hp⟩ : ∃ p, Hid (w2.heap.size = p) := ⟨_, Lib.hid rfl⟩
  obtain ⟨q, Hq⟩ : ∃ q, Hid (p + 1 = q) := ⟨_, Lib.hid rfl⟩
  have L0 : Hid (Lw w U b p q none [] (fun _ => false) (fun _ => [])) := Lib.hid (by
    have h1 : (w2.alloc (.cells #[.bool false, .bool false, .bool false, .bool false, .bool false, .bool false, .bool false, .bool false, .bool false, .bool false, .bool false, .bool false, .bool false, .bool false, .bool false, .bool false, .bool false, .bool false, .bool false, .bool false, .bool false, .bool false, .bool false, .bool false, .bool false, .bool false, .bool false, .bool false, .bool false, .bool false, .bool false, .bool false] 49)).heap.size = q := by rw [← Hq.out, ← Hp.out]; simp
    have a1 := ar_new w2 32 (by decide) (.bool false) 49 #[.bool false, .bool false, .bool false, .bool false, .bool false, .bool false, .bool false, .bool false, .bool false, .bool false, .bool false, .bool false, .bool false, .bool false, .bool false, .bool false, .bool false, .bool false, .bool false, .bool false, .bool false, .bool false, .bool false, .bool false, .bool false, .bool false, .bool false, .bool false, .bool false, .bool false, .bool false, .bool false] rfl
    have a2 := ar_new (w2.alloc (.cells #[.bool false, .bool false, .bool false, .bool false, .bool false, .bool false, .bool false, .bool false, .bool false, .bool false, .bool false, .bool false, .bool false, .bool false, .bool false, .bool false, .bool false, .bool false, .bool false, .bool false, .bool false, .bool false, .bool false, .bool false, .bool false, .bool false, .bool false, .bool false, .bool false, .bool false, .bool false, .bool false] 49)) 32 (by decide) (.string (str [])) 48 #[.string ⟨#[]⟩, .string ⟨#[]⟩, .string ⟨#[]⟩, .string ⟨#[]⟩, .string ⟨#[]⟩, .string ⟨#[]⟩, .string ⟨#[]⟩, .string ⟨#[]⟩, .string ⟨#[]⟩, .string ⟨#[]⟩, .string ⟨#[]⟩, .string ⟨#[]⟩, .string ⟨#[]⟩, .string ⟨#[]⟩, .string ⟨#[]⟩, .string ⟨#[]⟩, .string ⟨#[]⟩, .string ⟨#[]⟩, .string ⟨#[]⟩, .string ⟨#[]⟩, .string ⟨#[]⟩, .string ⟨#[]⟩, .string ⟨#[]⟩, .string ⟨#[]⟩, .string ⟨#[]⟩, .string ⟨#[]⟩, .string ⟨#[]⟩, .string ⟨#[]⟩, .string ⟨#[]⟩, .string ⟨#[]⟩, .string ⟨#[]⟩, .string ⟨#[]⟩] rfl
    rw [Hp.out] at a1
    rw [h1] at a2
    rw [← HU.out]
    have lb := K2.out.ca.lt
    have lw := K2.out.below.size
    have hp := Hp.out
    have hq := Hq.out
    refine ⟨(K2.out.later (balloc (Below.refl _ _) _)).later (balloc (Below.refl _ _) _), in32_nil, tie_nil, a1.below (balloc (Below.refl _ _) _), a2, by omega, by omega, by omega, (fun _ e => by cases e), (fun _ e => by cases e), by omega, by omega⟩)
  go_wp2_with fail
  rw [HU.out, Hp.out, Hq.out]
  have hl0 := Lib.hid (H0.out.1.below (by have := L0.out.kc.below; exact this))
  refine (small18_any A0 n0 c0 l0 U hl0.out H0.out.2).mono ?_
  rintro e w3 ⟨A, n, c, rfl, gr, gn, gb⟩
  have hnl : (cutC l0).length = n := by
    obtain ⟨A', c', e⟩ := gr.shape
    injection e with _ e
    exact e.symm
  have hn12 : n ≤ 12 := by rw [← hnl]; exact cutC_length l0
  have Hnl := Lib.hid hnl
  have Hwf : Hid (∀ s ∈ cutC l0, (Lit.int .i64 s.1).wf = true) := Lib.hid (cutC_wf H0.out.2)
  obtain ⟨cs, Hcs⟩ : ∃ cs, Hid (cutC l0 = cs) := ⟨_, Lib.hid rfl⟩
  rw [Hcs.out] at Hnl Hwf gr
  have G3 : Hid (Lw w w3 b p q none [] (fun _ => false) (fun _ => []) ∧ IsG w3 2 encC A n cs ∧ Apart A n b p q none) := Lib.hid (by
    refine ⟨L0.out.later gb, (gr.is encC_ok).1, ⟨fun g off e _ => ⟨?_, by simp⟩, fun g off e _ => ?_⟩⟩
    · have h1 := gn g (by rw [e]; rfl)
      have h2 := L0.out.kc.ca.lt
      omega
    · have h1 := gn g (by rw [e]; rfl)
      have h2 := L0.out.ab.lt
      have h3 := L0.out.sb.lt
      omega)
  clear gr gn gb hnl
  go_wp2_with fail

  go_loopw [10] (fun i wr => ∃ (j : Nat) (m : Option Nat) (L : List Li) (f : Nat → Bool) (s : Nat → List UInt8), j ≤ n ∧ i = .int .i64 j ∧ Hid (Lw w wr b p q m L f s ∧ L.length ≤ j ∧ IsG wr 2 encC A n cs ∧ Apart A n b p q m)) (fun i _ => n - (intOf i).toNat)
  case atStart => exact ⟨0, none, [], _, _, Nat.zero_le _, rfl, Lib.hid ⟨G3.out.1, Nat.le_refl _, G3.out.2⟩⟩
  case round =>
    obtain ⟨j, m, L, f, s, hj, rfl, HC⟩ := hrel
    by_cases hlt : j < n
    · obtain ⟨x, Hx⟩ : ∃ x, Hid (cs[j]? = some x) := ⟨cs[j]'(by have := Hnl.out; omega), Lib.hid (List.getElem?_eq_getElem _)⟩
      obtain ⟨g, off, rfl, hgl, hc⟩ := HC.out.2.2.1.cells (by omega)
      have c0 := hc j x 0 _ Hx.out rfl
      have c1 := hc j x 1 _ Hx.out rfl
      rw [Nat.add_zero] at c0
      have hap := HC.out.2.2.2
      have Hgp : Hid (g ≠ p ∧ g ≠ q) := Lib.hid (hap.two g off rfl (by omega))
      obtain ⟨k, Hk, hk31⟩ := and_mask x.1 31 (by decide)
      have hk : bits .and .i64 x.1 31 = (k : Int) := Hk.out
      have hkw : Hid ((Lit.int .i64 (k : Int)).wf = true) := Lib.hid (WalkArith.wf_i64 (by omega))
      clear hc hap
      go_wp2_with fail
      refine (one_any _ x.2 _).mono ?_
      rintro e w4 ⟨rfl, b4⟩
      obtain ⟨u4, Hu4⟩ : ∃ u, Hid (w4.alloc (.cells #[.int .i64 (k : Int), .string (str x.2)] 36) = u) := ⟨_, Lib.hid rfl⟩
      obtain ⟨p4, Hp4⟩ : ∃ p, Hid (w4.heap.size = p) := ⟨_, Lib.hid rfl⟩
      have G4 := Lib.hid ((HC.out.1.kc.later b4).box ((k : Int), x.2) Hu4.out Hp4.out)
      have L4 : Hid (Lw w u4 b p q m L f s ∧ IsG u4 2 encC (some ⟨g, off, none⟩) n cs) := Lib.hid ⟨(HC.out.1.later b4).later G4.out.2.2.2, (HC.out.2.2.1.below b4).below G4.out.2.2.2⟩
      clear b4 c0 c1
      go_wp2_with fail
      rw [Hu4.out, Hp4.out]
      refine (Put_any G4.out.2.1.ca _ 1 1 [((k : Int), x.2)] G4.out.1 G4.out.2.2.1 (by intro y hy; simp at hy; subst hy; exact hkw.out) (by have := HC.out.2.1; unfold maxLen; omega)).mono ?_
      rintro e w5 ⟨rfl, m5, c5, t5⟩
      have c5' : Ca w5 b m5 (setL L ((k : Int), x.2, true)) := c5
      obtain ⟨a1, a2, hL5, _⟩ := L4.out.1.set (by omega) c5' t5
      have f1 := a1.fz k (by omega)
      have f2 := a2.fz k (by omega)
      have e1 : w5.cell? ⟨p, k, none⟩ = some (.bool (f k)) := a1.cell k (by omega)
      have e2 : w5.cell? ⟨q, k, none⟩ = some (.string (str (s k))) := a2.cell k (by omega)
      have g5 := L4.out.2.to HC.out.2.2.2.aside t5
      obtain ⟨g', off', eg, hgl', hc⟩ := g5.cells (by omega)
      injection eg with eg
      injection eg with eg1 eg2
      subst eg1 eg2
      have c1 := hc j x 1 _ Hx.out rfl
      have hgp := Hgp.out.1
      have hgq := Hgp.out.2
      have hpq := HC.out.1.pq
      have N5 : Hid (Lw w ((w5.setCell ⟨p, k, none⟩ (.bool true)).setCell ⟨q, k, none⟩ (.string (str x.2))) b p q m5 (setL L ((k : Int), x.2, true)) (upd f k true) (upd s k x.2) ∧ (setL L ((k : Int), x.2, true)).length ≤ j + 1 ∧
          IsG ((w5.setCell ⟨p, k, none⟩ (.bool true)).setCell ⟨q, k, none⟩ (.string (str x.2))) 2 encC (some ⟨g, off, none⟩) n cs ∧ Apart (some ⟨g, off, none⟩) n b p q m5) := Lib.hid (by
        refine ⟨hL5, Nat.le_trans (setL_length_le _ _) (by have := HC.out.2.1; omega), ?_, ⟨HC.out.2.2.2.aside.to t5 L4.out.2, HC.out.2.2.2.two⟩⟩
        have m1 : Mod (fun y => y = p ∨ y = q) w5 ((w5.setCell ⟨p, k, none⟩ (.bool true)).setCell ⟨q, k, none⟩ (.string (str x.2))) := ((Mod.refl _ w5).setCell (p := ⟨p, k, none⟩) (.inl (.inl rfl)) _).setCell (p := ⟨q, k, none⟩) (.inl (.inr rfl)) _
        refine g5.later m1 (fun y o e _ hs => ?_)
        injection e with e
        injection e with e
        subst e
        exact hs.elim hgp hgq)
      clear c5 c5' t5 hL5 hc g5 hgl'
      go_wp2_with fail
      go_roundw
      case rel => exact ⟨j + 1, m5, _, _, _, by omega, by go_num, N5⟩
      case measure => simp [intOf]; omega
    · obtain rfl : j = n := by omega
      go_wp2_with fail
      refine (Dirty_any HC.out.1.kc.ca 0 32 (by have := HC.out.2.1; omega)).mono ?_
      obtain ⟨D, HD⟩ : ∃ D, Hid (dirtyL L 0 32 = D) := ⟨_, Lib.hid rfl⟩
      rw [HD.out]
      rintro e w6 ⟨A6, dn, c6, rfl, g6, _, b6⟩
      obtain rfl : D.length = dn := by
        obtain ⟨A', c', e⟩ := g6.shape
        injection e with _ e
        exact e.symm
      have L6 : Hid (Lw w w6 b p q m L f s) := Lib.hid (HC.out.1.later b6)
      have hLn : L.length ≤ 12 := Nat.le_trans HC.out.2.1 hn12
      clear b6 g6
      go_wp2_with fail
      have hl1 := Lib.hid (H1.out.1.below L6.out.kc.below)
      refine (small18_any A1 n1 c1 l1 w6 hl1.out H1.out.2).mono ?_
      rintro e w7 ⟨AA, nn, cc, rfl, gr, gn, gb⟩
      have hnl : (cutC l1).length = nn := by
        obtain ⟨A', c', e⟩ := gr.shape
        injection e with _ e
        exact e.symm
      have hnn12 : nn ≤ 12 := by rw [← hnl]; exact cutC_length l1
      have Hnl1 := Lib.hid hnl
      have Hwf1 : Hid (∀ s ∈ cutC l1, (Lit.int .i64 s.1).wf = true) := Lib.hid (cutC_wf H1.out.2)
      obtain ⟨ds, Hds⟩ : ∃ ds, Hid (cutC l1 = ds) := ⟨_, Lib.hid rfl⟩
      rw [Hds.out] at Hnl1 Hwf1 gr
      have G7 : Hid (Lw w w7 b p q m L f s ∧ IsG w7 2 encC AA nn ds ∧ Apart AA nn b p q m) := Lib.hid (by
        have h2 := L6.out.kc.ca.lt
        have h3 := L6.out.ab.lt
        have h4 := L6.out.sb.lt
        refine ⟨L6.out.later gb, (gr.is encC_ok).1, ⟨fun g off e _ => ⟨?_, fun e2 => ?_⟩, fun g off e _ => ?_⟩⟩
        · have h1 := gn g (by rw [e]; rfl)
          omega
        · have h1 := gn g (by rw [e]; rfl)
          have := (L6.out.kc.ca.ne e2).2
          omega
        · have h1 := gn g (by rw [e]; rfl)
          omega)
      clear gr gn gb hnl
      have HD0 := Lib.hid HD.out
      obtain ⟨dn, Hdn⟩ : ∃ dn, Hid (D.length = dn) := ⟨_, Lib.hid rfl⟩
      rw [Hdn.out]
      clear HC
      go_wp2_with fail
      go_loopw [14] (fun i wr => ∃ (j : Nat) (m : Option Nat) (L : List Li) (f : Nat → Bool) (s : Nat → List UInt8), j ≤ nn ∧ i = .int .i64 j ∧ Hid (Lw w wr b p q m L f s ∧ L.length ≤ 12 + j ∧ IsG wr 2 encC AA nn ds ∧ Apart AA nn b p q m ∧ dirtyL L 0 32 = D)) (fun i _ => nn - (intOf i).toNat)
      case atStart => exact ⟨0, m, L, f, s, Nat.zero_le _, rfl, Lib.hid ⟨G7.out.1, hLn, G7.out.2.1, G7.out.2.2, HD0.out⟩⟩
      case round =>
        obtain ⟨j, m2, L2, f2, s2, hj2, rfl, HC⟩ := hrel
        clear hLn
        by_cases hlt2 : j < nn
        · obtain ⟨x, Hx⟩ : ∃ x, Hid (ds[j]? = some x) := ⟨ds[j]'(by have := Hnl1.out; omega), Lib.hid (List.getElem?_eq_getElem _)⟩
          obtain ⟨g, off, rfl, hgl, hc⟩ := HC.out.2.2.1.cells (by omega)
          have c0 := hc j x 0 _ Hx.out rfl
          have c1 := hc j x 1 _ Hx.out rfl
          rw [Nat.add_zero] at c0
          have Hgp : Hid (g ≠ p ∧ g ≠ q) := Lib.hid (HC.out.2.2.2.1.two g off rfl (by omega))
          obtain ⟨k, Hk, hk31⟩ := and_mask x.1 31 (by decide)
          have hk : bits .and .i64 x.1 31 = (k : Int) := Hk.out
          have hk32 : k < 32 := by omega
          have hk32' : (k : Int) < 32 := by omega
          have hkw : Hid ((Lit.int .i64 (k : Int)).wf = true) := Lib.hid (WalkArith.wf_i64 (by omega))
          have Hbp : Hid (b ≠ p ∧ b ≠ g) := Lib.hid ⟨fun e => HC.out.1.pb e.symm, fun e => (HC.out.2.2.2.1.aside g off rfl (by omega)).1 e.symm⟩
          have Hmg : Hid (m2 ≠ some g) := Lib.hid (HC.out.2.2.2.1.aside g off rfl (by omega)).2
          have e1 : wr.cell? ⟨p, k, none⟩ = some (.bool (f2 k)) := HC.out.1.ab.cell k (by omega)
          obtain ⟨fk, Hfk⟩ : ∃ fk, Hid (f2 k = fk) := ⟨_, Lib.hid rfl⟩
          have Hlk : Hid ((look L2 (k : Int)).isNone = !fk) := Lib.hid (by rw [← Hfk.out, HC.out.1.tie.is k (by omega)]; cases look L2 (k : Int) <;> rfl)
          rw [Hfk.out] at e1
          clear hc
          go_wp2_with fail
          have hT : Two p k g (off + j * 2 + 1) fk x.2 wr := ⟨e1, c1⟩
          have hTd : Two p k g (off + j * 2 + 1) fk x.2 wr.drew := ⟨e1, c1⟩
          haveI := two_in hT
          refine wp_region_mix (by kernel_rfl) (Cls (Two p k g (off + j * 2 + 1) fk x.2)) [(0, 0), (1, 0), (2, 0), (3, 0), (4, 0), (5, 0), (6, 0), (8, 0), (9, 0), (10, 0), (7, 1), (11, 0)] (by kernel_rfl) (cls hTd) ?_
          have q0 : ∀ y : In (Two p k g (off + j * 2 + 1) fk x.2), y.u.cell? ⟨p, k, none⟩ = some (.bool fk) := fun y => y.is.1
          have q1 : ∀ y : In (Two p k g (off + j * 2 + 1) fk x.2), y.u.cell? ⟨g, off + j * 2 + 1, none⟩ = some (.string (str x.2)) := fun y => y.is.2
          repeat (refine mix0 rfl (fun K hK => ?_); go_simp; refine hK _ ?_; clear hK K)
          refine mix1 rfl (fun K hK => ?_)
          go_simp
          have Ld : Hid (Lw w wr.drew b p q m2 L2 f2 s2 ∧ IsG wr.drew 2 encC (some ⟨g, off, none⟩) nn ds) := Lib.hid ⟨HC.out.1.later (Below.refl _ _).drew, HC.out.2.2.1.below (Below.refl _ _).drew⟩
          refine (Load_any Ld.out.1.kc.ca (k : Int) hkw.out x.2 (by have := HC.out.2.1; unfold maxLen; omega)).mono ?_
          rw [Hlk.out]
          rintro e w8 ⟨rfl, m8, c8, t8⟩
          have hg8 := Ld.out.2.to HC.out.2.2.2.1.aside t8
          have hc8 : w8.cell? ⟨g, off + j * 2 + 1, none⟩ = some (.string (str x.2)) := by
            obtain ⟨g', off', eg, _, hc⟩ := hg8.cells (by omega)
            injection eg with eg
            injection eg with eg1 eg2
            subst eg1 eg2
            exact hc j x 1 _ Hx.out rfl
          have hp1 : ¬ (p = b ∨ m2 = some p) := fun e => e.elim (fun e => Hbp.out.1 e.symm) fun e => HC.out.1.pm p e rfl
          have hq1 : ¬ (q = b ∨ m2 = some q) := fun e => e.elim HC.out.1.qb fun e => HC.out.1.qm q e rfl
          have A8 := Ld.out.1.ab.later t8.mod hp1
          have hp8 : w8.cell? ⟨p, k, none⟩ = some (.bool fk) := by rw [← Hfk.out]; exact A8.cell k (by omega)
          have hpf : w8.frozen? ⟨p, k, none⟩ = false := A8.fz k (by omega)
          have S8 := Ld.out.1.sb.later t8.mod hq1
          have hq8 : w8.cell? ⟨q, k, none⟩ = some (.string (str (s2 k))) := S8.cell k (by omega)
          have hqf : w8.frozen? ⟨q, k, none⟩ = false := S8.fz k (by omega)
          have G8 := Lib.hid (And.intro c8 (And.intro t8 hg8))
          refine ⟨_, rfl, hK _ _ (cls ⟨hp8, hc8⟩) ?_⟩
          clear hK K
          repeat (refine mix0 rfl (fun K hK => ?_); go_simp; refine hK _ ?_; clear hK K)
          refine mixEnd ?_
          have Ap8 : Hid (Apart (some ⟨g, off, none⟩) nn b p q m8) := Lib.hid ⟨HC.out.2.2.2.1.aside.to t8 Ld.out.2, HC.out.2.2.2.1.two⟩
          clear q0 q1 hT hTd c8 t8 hg8 A8 S8 this c0 c1 e1 hp1 hq1
          have hgp := Hgp.out.1
          have hgq := Hgp.out.2
          have hpq := HC.out.1.pq
          cases fk
          · have HL : Hid (look L2 (k : Int) = none) := Lib.hid (by have := Hlk.out; cases hq : look L2 (k : Int) with
              | none => rfl
              | some v => rw [hq] at this; cases this)
            obtain ⟨X, HX⟩ : ∃ X, Hid (setL L2 ((k : Int), x.2, false) = X) := ⟨_, Lib.hid rfl⟩
            have hld : loadL L2 (k : Int) x.2 = X := by rw [loadL, if_pos HL.out, HX.out]
            obtain ⟨w10, Hw10⟩ : ∃ u, Hid ((w8.setCell ⟨q, k, none⟩ (.string (str x.2))).setCell ⟨p, k, none⟩ (.bool true) = u) := ⟨_, Lib.hid rfl⟩
            have L10 : Hid (Lw w w10 b p q m8 X (upd f2 k true) (upd s2 k x.2) ∧ X.length ≤ 12 + (j + 1) ∧ IsG w10 2 encC (some ⟨g, off, none⟩) nn ds ∧ Apart (some ⟨g, off, none⟩) nn b p q m8 ∧ dirtyL X 0 32 = D) := Lib.hid (by
              have c8 := G8.out.1
              rw [hld] at c8
              have h4 := (Ld.out.1.set (by omega) (HX.out ▸ c8) G8.out.2.1).2.2.2
              rw [HX.out, Hw10.out] at h4
              refine ⟨h4, ?_, ?_, Ap8.out, ?_⟩
              · rw [← HX.out]
                exact Nat.le_trans (setL_length_le _ _) (by have := HC.out.2.1; omega)
              · rw [← Hw10.out]
                have m1 : Mod (fun y => y = p ∨ y = q) w8 ((w8.setCell ⟨q, k, none⟩ (.string (str x.2))).setCell ⟨p, k, none⟩ (.bool true)) := ((Mod.refl _ w8).setCell (p := ⟨q, k, none⟩) (.inl (.inr rfl)) _).setCell (p := ⟨p, k, none⟩) (.inl (.inl rfl)) _
                refine G8.out.2.2.later m1 (fun y o e _ hs => ?_)
                injection e with e
                injection e with e
                subst e
                exact hs.elim hgp hgq
              · have := dirty_load (L := L2) (k : Int) x.2 0 32
                rw [hld] at this
                rw [this]
                exact HC.out.2.2.2.2)
            clear hld
            go_wp2_with fail
            rw [Hw10.out]
            have HK : Hid ((kvOf X (k : Int)).1 = (upd s2 k x.2) k ∧ (look X (k : Int)).isSome = true) := Lib.hid (by
              have h1 := L10.out.1.tie.is k (by omega)
              have h2 := L10.out.1.tie.want k (by omega)
              have h3 : (upd f2 k true) k = true := upd_same _ _ _
              exact ⟨(h2 h3).symm, by rw [← h1]; exact h3⟩)
            obtain ⟨sk, Hsk⟩ : ∃ sk, Hid ((upd s2 k x.2) k = sk) := ⟨_, Lib.hid rfl⟩
            rw [Hsk.out] at HK
            refine (Get_any L10.out.1.kc.ca (k : Int) hkw.out).mono ?_
            rw [HK.out.1, HK.out.2]
            rintro e w11 ⟨rfl, b11⟩
            have N11 : Hid (Lw w w11 b p q m8 X (upd f2 k true) (upd s2 k x.2) ∧ (X).length ≤ 12 + (j + 1) ∧ IsG w11 2 encC (some ⟨g, off, none⟩) nn ds ∧ Apart (some ⟨g, off, none⟩) nn b p q m8 ∧ dirtyL X 0 32 = D) := Lib.hid
              ⟨L10.out.1.later b11, L10.out.2.1, L10.out.2.2.1.below b11, L10.out.2.2.2⟩
            have k11 : w11.cell? ⟨q, k, none⟩ = some (.string (str sk)) := by rw [← Hsk.out]; exact N11.out.1.sb.cell k (by omega)
            clear b11
            go_wp2_with fail
            go_roundw
            case rel => exact ⟨j + 1, m8, _, _, _, by omega, by go_num, N11⟩
            case measure => simp [intOf]; omega
          · have HL : Hid (look L2 (k : Int) ≠ none) := Lib.hid (fun e => by have := Hlk.out; rw [e] at this; cases this)
            have hld : loadL L2 (k : Int) x.2 = L2 := by rw [loadL, if_neg HL.out]
            obtain ⟨w10, Hw10⟩ : ∃ u, Hid (w8.setCell ⟨p, k, none⟩ (.bool true) = u) := ⟨_, Lib.hid rfl⟩
            have L10 : Hid (Lw w w10 b p q m8 L2 f2 s2 ∧ L2.length ≤ 12 + (j + 1) ∧ IsG w10 2 encC (some ⟨g, off, none⟩) nn ds ∧ Apart (some ⟨g, off, none⟩) nn b p q m8 ∧ dirtyL L2 0 32 = D) := Lib.hid (by
              have c8 := G8.out.1
              rw [hld] at c8
              have h4 := (Ld.out.1.to c8 G8.out.2.1).touch (k := k) (by omega) Hfk.out
              rw [Hw10.out] at h4
              refine ⟨h4, by have := HC.out.2.1; omega, ?_, Ap8.out, HC.out.2.2.2.2⟩
              rw [← Hw10.out]
              refine G8.out.2.2.later ((Mod.refl (· = p) w8).set1 _) (fun y o e _ hs => ?_)
              injection e with e
              injection e with e
              subst e
              exact hgp hs)
            clear hld
            go_wp2_with fail
            rw [Hw10.out]
            have HK : Hid ((kvOf L2 (k : Int)).1 = s2 k ∧ (look L2 (k : Int)).isSome = true) := Lib.hid (by
              have h1 := L10.out.1.tie.is k (by omega)
              have h2 := L10.out.1.tie.want k (by omega)
              have h3 : f2 k = true := Hfk.out
              exact ⟨(h2 h3).symm, by rw [← h1]; exact h3⟩)
            obtain ⟨sk, Hsk⟩ : ∃ sk, Hid (s2 k = sk) := ⟨_, Lib.hid rfl⟩
            rw [Hsk.out] at HK
            refine (Get_any L10.out.1.kc.ca (k : Int) hkw.out).mono ?_
            rw [HK.out.1, HK.out.2]
            rintro e w11 ⟨rfl, b11⟩
            have N11 : Hid (Lw w w11 b p q m8 L2 f2 s2 ∧ (L2).length ≤ 12 + (j + 1) ∧ IsG w11 2 encC (some ⟨g, off, none⟩) nn ds ∧ Apart (some ⟨g, off, none⟩) nn b p q m8 ∧ dirtyL L2 0 32 = D) := Lib.hid
              ⟨L10.out.1.later b11, L10.out.2.1, L10.out.2.2.1.below b11, L10.out.2.2.2⟩
            have k11 : w11.cell? ⟨q, k, none⟩ = some (.string (str sk)) := by rw [← Hsk.out]; exact N11.out.1.sb.cell k (by omega)
            clear b11
            go_wp2_with fail
            go_roundw
            case rel => exact ⟨j + 1, m8, _, _, _, by omega, by go_num, N11⟩
            case measure => simp [intOf]; omega
        · obtain rfl : j = nn := by omega
          go_wp2_with fail
          refine (Dirty_any HC.out.1.kc.ca 0 32 (by have := HC.out.2.1; omega)).mono ?_
          rw [HC.out.2.2.2.2]
          rintro e w9 ⟨A9, d9, c9, rfl, g9, _, b9⟩
          obtain rfl : d9 = dn := by
            obtain ⟨A', c', e⟩ := g9.shape
            injection e with _ e
            exact e.trans Hdn.out
          have B9 := Lib.hid (bnext HC.out.1.kc.below b9)
          clear b9 g9
          go_wp2
          go_ret
          exact ⟨rfl, B9.out⟩

theorem own : ownKnob Try.prog.godebug = none := by kernel_rfl
theorem laidOut : laidOutB Try.prog = true := by kernel_rfl
set_option maxRecDepth 100000 in
theorem lifted (os : Os) (started : os.Started) (H : Type) (enc : TypeId × Value → H) :
    ReturnsInHanded {} Try.checked os 7 .any (Rows.cacheLoadsSpec.pre6 enc Try.prog Try.f7 Rows.cacheLoadsRow.domain false) (Rows.cacheLoadsSpec.post enc Try.prog Try.f7 false true false false) := by
  refine returnsInHanded_of_change (C := Try.checked) own started (by kernel_rfl) Try.func7
    (ChangeSpec.witness6 (enc := enc) (C := Try.checked) false ⟨#[], #[.slice none 0 0, .slice none 0 0], []⟩ 8 (by kernel_rfl) (by kernel_rfl) (by kernel_rfl) (by kernel_rfl)) ?_
  intro W base args ds gs before hval0 hW hcnd _
  have hval : ∀ (j : Nat) t v, Try.f7.params[j]? = some t → args[j]? = some v → Value.okWide Try.prog W .any base t v := hval0
  have hW' := hW
  obtain ⟨p, q, hA0, hV, rfl, hfz, hnd⟩ := hW
  have hA : DataW.TrodAll enc Try.prog W 0 (fun _ => true) true Try.f7.params.toList args.toList ds p := hA0
  rw [Try.params7] at hA hval
  obtain ⟨v0, vs0, d0, ds0, p0, q0, hargs, rfl, rfl, h0, r0⟩ := trodAll_cons hA
  obtain ⟨v1, vs1, d1, ds1, p1, q1, rfl, rfl, rfl, h1, r1⟩ := trodAll_cons r0
  obtain ⟨rfl, rfl, rfl⟩ := trodAll_nil r1
  obtain rfl : args = #[v0, v1] := by cases args; simp_all
  obtain ⟨x0, len0, cap0, a0, rfl, w0⟩ := opens_chs (hval 0 30 v0 rfl rfl) h0
  obtain ⟨x1, len1, cap1, a1, rfl, w1⟩ := opens_chs (hval 1 30 v1 rfl rfl) h1
  clear hA0 hval0
  refine (walk x0 len0 cap0 a0 x1 len1 cap1 a1 W w0 w1).mono fun e W' ⟨he, bel⟩ => ?_
  subst he
  exact ⟨_, rfl, law_post laidOut (by rw [Try.params7]; decide +kernel) rfl Try.underlying4 rfl hW' (fun _ => rfl) bel⟩
theorem over : Rows.cacheLoadsRow.holds Try.pinned (OpenSpec.ofChange Rows.cacheLoadsSpec) :=
  OpenClaim.holds_of_wide 7 Try.f7 rfl rfl rfl rfl rfl rfl rfl ⟨rfl, rfl, rfl, rfl, rfl⟩ rfl rfl rfl rfl rfl (by kernel_rfl) Try.func7 (by kernel_rfl)
    (of_decide_eq_true (by kernel_rfl)) (by unfold Func.isWrapper; first | (rw [if_pos (by decide +kernel)]; kernel_rfl) | (rw [if_neg (by decide +kernel)]; exact ⟨rfl, rfl⟩))
    (fun os started H enc _ => lifted os started H enc)
theorem proved : Rows.CacheLoadsSaid := over
end Go.Proofs.Ytocnpjmhkgnomaa.cacheLoads
