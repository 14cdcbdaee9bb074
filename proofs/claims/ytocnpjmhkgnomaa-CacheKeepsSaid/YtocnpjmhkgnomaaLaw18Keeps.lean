/- What was put is known, and dirty, as it was put last, till it is dropped, whatever is loaded, and whatever else is told clean; told clean as it is, it is clean, and known still. No condition. -/
import Derived.Test.YtocnpjmhkgnomaaRows
import Derived.Test.YtocnpjmhkgnomaaCk18

namespace Go.Proofs.Ytocnpjmhkgnomaa.cacheKeeps
open Go.RowKit Go.ChangeShapes Go.WideShapes Go.ChangeAt
open Go.ChangeMaps (open_string shut_string)

set_option maxRecDepth 100000 in
set_option maxHeartbeats 16000000 in
theorem walk (A0 : Option Addr) (n0 c0 : Nat) (l0 : List Ch) (A1 : Option Addr) (n1 c1 : Nat) (l1 : List Ch) (A2 : Option Addr) (n2 c2 : Nat) (l2 : List Ch) (w : World) (h0 : IsG w 2 encC A0 n0 l0 ∧ ∀ s ∈ l0, wfC s) (h1 : IsG w 2 encC A1 n1 l1 ∧ ∀ s ∈ l1, wfC s) (h2 : IsG w 2 encC A2 n2 l2 ∧ ∀ s ∈ l2, wfC s) :
    Calls Try.prog 4 #[.slice A0 n0 c0, .slice A1 n1 c1, .slice A2 n2 c2] w fun e w' => e = .returned (.bool true) ∧ Below w.heap.size w w' := by
  have H0 := Lib.hid h0
  have H1 := Lib.hid h1
  have H2 := Lib.hid h2
  clear h0 h1 h2
  go_enter Try.func4, Try.ntmps4
  go_wp2_with fail
  refine (awk18_any _).mono ?_
  rintro e w1 ⟨rfl, b1⟩
  have B1 := Lib.hid b1
  clear b1
  go_wp2_with fail
  refine (New_any _).mono ?_
  rintro e w2 ⟨b, rfl, cn, ln, bn⟩
  have K2 : Hid (KC w w2 b none []) := Lib.hid ⟨cn, bnext B1.out bn, Nat.le_trans B1.out.size ln, (fun _ e => by cases e)⟩
  clear cn ln bn
  go_wp2_with fail
  have hl0 := Lib.hid (H0.out.1.below K2.out.below)
  refine (small18_any A0 n0 c0 l0 w2 hl0.out H0.out.2).mono ?_
  rintro e w3 ⟨A, n, c, rfl, gr, gn, gb⟩
  have hnl : (cutC l0).length = n := by
    obtain ⟨A', c', e⟩ := gr.shape
    injection e with _ e
    exact e.symm
  have hn12 : n ≤ 12 := by rw [← hnl]; exact cutC_length l0
  have Hnl := Lib.hid hnl
  obtain ⟨cs, Hcs⟩ : ∃ cs, Hid (cutC l0 = cs) := ⟨_, Lib.hid rfl⟩
  rw [Hcs.out] at Hnl gr
  obtain ⟨U, HU⟩ : ∃ U, Hid ((w3.alloc (.cells #[.string ⟨#[]⟩, .string ⟨#[]⟩, .string ⟨#[]⟩, .string ⟨#[]⟩, .string ⟨#[]⟩, .string ⟨#[]⟩, .string ⟨#[]⟩, .string ⟨#[]⟩, .string ⟨#[]⟩, .string ⟨#[]⟩, .string ⟨#[]⟩, .string ⟨#[]⟩, .string ⟨#[]⟩, .string ⟨#[]⟩, .string ⟨#[]⟩, .string ⟨#[]⟩, .string ⟨#[]⟩, .string ⟨#[]⟩, .string ⟨#[]⟩, .string ⟨#[]⟩, .string ⟨#[]⟩, .string ⟨#[]⟩, .string ⟨#[]⟩, .string ⟨#[]⟩, .string ⟨#[]⟩, .string ⟨#[]⟩, .string ⟨#[]⟩, .string ⟨#[]⟩, .string ⟨#[]⟩, .string ⟨#[]⟩, .string ⟨#[]⟩, .string ⟨#[]⟩] 48)).alloc (.cells #[.bool false, .bool false, .bool false, .bool false, .bool false, .bool false, .bool false, .bool false, .bool false, .bool false, .bool false, .bool false, .bool false, .bool false, .bool false, .bool false, .bool false, .bool false, .bool false, .bool false, .bool false, .bool false, .bool false, .bool false, .bool false, .bool false, .bool false, .bool false, .bool false, .bool false, .bool false, .bool false] 49) = U) := ⟨_, Lib.hid rfl⟩
  obtain ⟨q, Hq⟩ : ∃ q, Hid (w3.heap.size = q) := ⟨_, Lib.hid rfl⟩
  obtain ⟨p, Hp⟩ : ∃ p, Hid (q + 1 = p) := ⟨_, Lib.hid rfl⟩
  have G3 : Hid (Kx w U b p q none [] (fun _ => false) (fun _ => []) ∧ (0 < n → ∃ g off, A = some ⟨g, off, none⟩ ∧ Rw U g off cs 0 ∧ g ≠ b ∧ g ≠ p ∧ g ≠ q ∧ w.heap.size ≤ g)) := Lib.hid (by
    have e1 : (w3.alloc (.cells #[.string ⟨#[]⟩, .string ⟨#[]⟩, .string ⟨#[]⟩, .string ⟨#[]⟩, .string ⟨#[]⟩, .string ⟨#[]⟩, .string ⟨#[]⟩, .string ⟨#[]⟩, .string ⟨#[]⟩, .string ⟨#[]⟩, .string ⟨#[]⟩, .string ⟨#[]⟩, .string ⟨#[]⟩, .string ⟨#[]⟩, .string ⟨#[]⟩, .string ⟨#[]⟩, .string ⟨#[]⟩, .string ⟨#[]⟩, .string ⟨#[]⟩, .string ⟨#[]⟩, .string ⟨#[]⟩, .string ⟨#[]⟩, .string ⟨#[]⟩, .string ⟨#[]⟩, .string ⟨#[]⟩, .string ⟨#[]⟩, .string ⟨#[]⟩, .string ⟨#[]⟩, .string ⟨#[]⟩, .string ⟨#[]⟩, .string ⟨#[]⟩, .string ⟨#[]⟩] 48)).heap.size = p := by rw [← Hp.out, ← Hq.out]; simp
    have a1 := ar_new w3 32 (by decide) (.string (str [])) 48 #[.string ⟨#[]⟩, .string ⟨#[]⟩, .string ⟨#[]⟩, .string ⟨#[]⟩, .string ⟨#[]⟩, .string ⟨#[]⟩, .string ⟨#[]⟩, .string ⟨#[]⟩, .string ⟨#[]⟩, .string ⟨#[]⟩, .string ⟨#[]⟩, .string ⟨#[]⟩, .string ⟨#[]⟩, .string ⟨#[]⟩, .string ⟨#[]⟩, .string ⟨#[]⟩, .string ⟨#[]⟩, .string ⟨#[]⟩, .string ⟨#[]⟩, .string ⟨#[]⟩, .string ⟨#[]⟩, .string ⟨#[]⟩, .string ⟨#[]⟩, .string ⟨#[]⟩, .string ⟨#[]⟩, .string ⟨#[]⟩, .string ⟨#[]⟩, .string ⟨#[]⟩, .string ⟨#[]⟩, .string ⟨#[]⟩, .string ⟨#[]⟩, .string ⟨#[]⟩] rfl
    have a2 := ar_new (w3.alloc (.cells #[.string ⟨#[]⟩, .string ⟨#[]⟩, .string ⟨#[]⟩, .string ⟨#[]⟩, .string ⟨#[]⟩, .string ⟨#[]⟩, .string ⟨#[]⟩, .string ⟨#[]⟩, .string ⟨#[]⟩, .string ⟨#[]⟩, .string ⟨#[]⟩, .string ⟨#[]⟩, .string ⟨#[]⟩, .string ⟨#[]⟩, .string ⟨#[]⟩, .string ⟨#[]⟩, .string ⟨#[]⟩, .string ⟨#[]⟩, .string ⟨#[]⟩, .string ⟨#[]⟩, .string ⟨#[]⟩, .string ⟨#[]⟩, .string ⟨#[]⟩, .string ⟨#[]⟩, .string ⟨#[]⟩, .string ⟨#[]⟩, .string ⟨#[]⟩, .string ⟨#[]⟩, .string ⟨#[]⟩, .string ⟨#[]⟩, .string ⟨#[]⟩, .string ⟨#[]⟩] 48)) 32 (by decide) (.bool false) 49 #[.bool false, .bool false, .bool false, .bool false, .bool false, .bool false, .bool false, .bool false, .bool false, .bool false, .bool false, .bool false, .bool false, .bool false, .bool false, .bool false, .bool false, .bool false, .bool false, .bool false, .bool false, .bool false, .bool false, .bool false, .bool false, .bool false, .bool false, .bool false, .bool false, .bool false, .bool false, .bool false] rfl
    rw [Hq.out] at a1
    rw [e1] at a2
    rw [← HU.out]
    have lb := K2.out.ca.lt
    have lw := K2.out.below.size
    have lg := gb.size
    have hp := Hp.out
    have hq := Hq.out
    have KU := (((K2.out.later gb).later (balloc (Below.refl _ _) (.cells #[.string ⟨#[]⟩, .string ⟨#[]⟩, .string ⟨#[]⟩, .string ⟨#[]⟩, .string ⟨#[]⟩, .string ⟨#[]⟩, .string ⟨#[]⟩, .string ⟨#[]⟩, .string ⟨#[]⟩, .string ⟨#[]⟩, .string ⟨#[]⟩, .string ⟨#[]⟩, .string ⟨#[]⟩, .string ⟨#[]⟩, .string ⟨#[]⟩, .string ⟨#[]⟩, .string ⟨#[]⟩, .string ⟨#[]⟩, .string ⟨#[]⟩, .string ⟨#[]⟩, .string ⟨#[]⟩, .string ⟨#[]⟩, .string ⟨#[]⟩, .string ⟨#[]⟩, .string ⟨#[]⟩, .string ⟨#[]⟩, .string ⟨#[]⟩, .string ⟨#[]⟩, .string ⟨#[]⟩, .string ⟨#[]⟩, .string ⟨#[]⟩, .string ⟨#[]⟩] 48))).later (balloc (Below.refl _ _) (.cells #[.bool false, .bool false, .bool false, .bool false, .bool false, .bool false, .bool false, .bool false, .bool false, .bool false, .bool false, .bool false, .bool false, .bool false, .bool false, .bool false, .bool false, .bool false, .bool false, .bool false, .bool false, .bool false, .bool false, .bool false, .bool false, .bool false, .bool false, .bool false, .bool false, .bool false, .bool false, .bool false] 49)))
    refine ⟨⟨KU, in32_nil, ktie_nil, a2, a1.below (balloc (Below.refl _ _) _), by omega, by omega, by omega, (fun _ e => by cases e), (fun _ e => by cases e), by omega, by omega⟩, fun h0 => ?_⟩
    obtain ⟨g, off, e, hr⟩ := rw_of gr h0
    have h1 := gn g (by rw [e]; rfl)
    have h2 := hr.lt
    exact ⟨g, off, e, (hr.below (balloc (Below.refl _ _) _)).below (balloc (Below.refl _ _) _), by omega, by omega, by omega, by omega⟩)
  clear gr gn gb hnl
  go_wp2_with fail
  rw [HU.out, Hq.out, Hp.out]
  go_loopw [12] (fun i wr => ∃ (j : Nat) (m : Option Nat) (L : List Li) (f : Nat → Bool) (s : Nat → List UInt8), j ≤ n ∧ i = .int .i64 j ∧ Hid (Kx w wr b p q m L f s ∧ L.length ≤ j ∧ (0 < n → ∃ g off, A = some ⟨g, off, none⟩ ∧ Rw wr g off cs j ∧ g ≠ b ∧ g ≠ p ∧ g ≠ q ∧ w.heap.size ≤ g ∧ m ≠ some g))) (fun i _ => n - (intOf i).toNat)
  case atStart => exact ⟨0, none, [], _, _, Nat.zero_le _, rfl, Lib.hid ⟨G3.out.1, Nat.le_refl _, fun h0 => by
    obtain ⟨g, off, h1, h2, h3, h4, h5, h6⟩ := G3.out.2 h0
    exact ⟨g, off, h1, h2, h3, h4, h5, h6, by simp⟩⟩⟩
  case round =>
    obtain ⟨j, m, L, f, s, hj, rfl, HC⟩ := hrel
    by_cases hlt : j < n
    · obtain ⟨x, Hx⟩ : ∃ x, Hid (cs[j]? = some x) := ⟨cs[j]'(by have := Hnl.out; omega), Lib.hid (List.getElem?_eq_getElem _)⟩
      obtain ⟨g, off, rfl, hrw, hgb, hgp, hgq, hgl, hgm⟩ := HC.out.2.2 (by omega)
      obtain ⟨d0, d1, d2⟩ := hrw.cell j x (Nat.le_refl _) Hx.out
      have HR := Lib.hid hrw
      have Hgm := Lib.hid hgm
      obtain ⟨k, Hk, hk31⟩ := and_mask x.1 31 (by decide)
      have hk : bits .and .i64 x.1 31 = (k : Int) := Hk.out
      have hk32 : k < 32 := by omega
      have hk32' : (k : Int) < 32 := by omega
      have hkw : Hid ((Lit.int .i64 (k : Int)).wf = true) := Lib.hid (WalkArith.wf_i64 (by omega))
      obtain ⟨u3, Hu3⟩ : ∃ u, Hid (wr.setCell ⟨g, off + j * 2, none⟩ (.int .i64 (k : Int)) = u) := ⟨_, Lib.hid rfl⟩
      have L3 : Hid (Kx w u3 b p q m L f s ∧ Rw u3 g off cs (j + 1) ∧ u3.cell? ⟨g, off + j * 2, none⟩ = some (.int .i64 (k : Int)) ∧ u3.cell? ⟨g, off + j * 2 + 1, none⟩ = some (.string (str x.2))) := Lib.hid (by
        rw [← Hu3.out]
        exact ⟨HC.out.1.other ((Mod.refl (· = g) wr).set1 _) hgb Hgm.out hgp hgq hgl, HR.out.step _, set_same d0, set_other (fun e => by injection e with _ e; omega) d1⟩)
      clear hrw hgm
      have hpq := HC.out.1.pq
      go_wp2_with fail
      obtain ⟨u4, Hu4⟩ : ∃ u, Hid (u3.alloc (.cells #[.int .i64 (k : Int), .string (str x.2)] 36) = u) := ⟨_, Lib.hid rfl⟩
      obtain ⟨p4, Hp4⟩ : ∃ p, Hid (wr.heap.size = p) := ⟨_, Lib.hid rfl⟩
      have hps : u3.heap.size = p4 := by rw [← Hp4.out, ← Hu3.out]; simp [World.setCell]
      rw [Hu3.out, Hu4.out, Hp4.out]
      have G4 := Lib.hid (L3.out.1.kc.box ((k : Int), x.2) Hu4.out hps)
      have L4 : Hid (Kx w u4 b p q m L f s ∧ Rw u4 g off cs (j + 1) ∧ u4.cell? ⟨g, off + j * 2, none⟩ = some (.int .i64 (k : Int)) ∧ u4.cell? ⟨g, off + j * 2 + 1, none⟩ = some (.string (str x.2))) := Lib.hid
        ⟨L3.out.1.later G4.out.2.2.2, L3.out.2.1.below G4.out.2.2.2, (G4.out.2.2.2.cell (p := ⟨g, off + j * 2, none⟩) L3.out.2.1.lt).trans L3.out.2.2.1, (G4.out.2.2.2.cell (p := ⟨g, off + j * 2 + 1, none⟩) L3.out.2.1.lt).trans L3.out.2.2.2⟩
      clear hps d0 d1 d2
      refine (Put_any G4.out.2.1.ca _ 1 1 [((k : Int), x.2)] G4.out.1 G4.out.2.2.1 (by intro y hy; simp at hy; subst hy; exact hkw.out) (by have := HC.out.2.1; unfold maxLen; omega)).mono ?_
      rintro e v ⟨rfl, m5, c5, t5⟩
      have c5' : Ca v b m5 (setL L ((k : Int), x.2, true)) := c5
      have hgs : ¬ (g = b ∨ m = some g) := fun e => e.elim hgb Hgm.out
      have V5 : Hid (Rw v g off cs (j + 1) ∧ v.cell? ⟨g, off + j * 2, none⟩ = some (.int .i64 (k : Int)) ∧ v.cell? ⟨g, off + j * 2 + 1, none⟩ = some (.string (str x.2))) := Lib.hid
        ⟨L4.out.2.1.later t5.mod hgs, (t5.mod.cell (p := ⟨g, off + j * 2, none⟩) L4.out.2.1.lt hgs).trans L4.out.2.2.1, (t5.mod.cell (p := ⟨g, off + j * 2 + 1, none⟩) L4.out.2.1.lt hgs).trans L4.out.2.2.2⟩
      have hm5 : Hid (m5 ≠ some g) := Lib.hid (fun e => t5.ne (q := g) (fun y hy e2 => Hgm.out (e2 ▸ hy)) L4.out.2.1.lt g e rfl)
      obtain ⟨ap, aq⟩ := L4.out.1.ars t5
      have G5 := Lib.hid (And.intro c5' (And.intro t5 (And.intro ap aq)))
      have e1 : v.cell? ⟨p, k, none⟩ = some (.bool (f k)) := ap.cell k (by omega)
      have e2 : v.cell? ⟨q, k, none⟩ = some (.string (str (s k))) := aq.cell k (by omega)
      have f1 := ap.fz k (by omega)
      have f2 := aq.fz k (by omega)
      have d0 := V5.out.2.1
      have d1 := V5.out.2.2
      clear c5 c5' t5 ap aq
      go_wp2_with fail
      refine wp_region_mix (by kernel_rfl) (Cls (Abv v)) [(0, 0), (1, 0), (2, 0), (3, 0), (4, 0), (5, 0), (6, 0), (7, 0), (8, 0), (9, 0), (10, 0), (11, 2)] (by kernel_rfl) (cls (Below.refl _ _).drew) ?_
      have q0 : ∀ y : In (Abv v), y.u.cell? ⟨g, off + j * 2, none⟩ = some (.int .i64 (k : Int)) := fun y => (y.is.cell (p := ⟨g, off + j * 2, none⟩) V5.out.1.lt).trans d0
      have q1 : ∀ y : In (Abv v), y.u.cell? ⟨g, off + j * 2 + 1, none⟩ = some (.string (str x.2)) := fun y => (y.is.cell (p := ⟨g, off + j * 2 + 1, none⟩) V5.out.1.lt).trans d1
      repeat (refine mix0 rfl (fun K hK => ?_); go_simp; refine hK _ ?_; clear hK K)
      refine mix2 rfl (fun K hK => ?_)
      go_simp
      refine hK _ _ ?_
      clear hK K
      refine mixEnd ?_
      obtain ⟨v6, Hv6⟩ : ∃ u, Hid ((v.setCell ⟨q, k, none⟩ (.string (str x.2))).drew = u) := ⟨_, Lib.hid rfl⟩
      rw [Hv6.out]
      have k0 : v6.cell? ⟨g, off + j * 2, none⟩ = some (.int .i64 (k : Int)) := by rw [← Hv6.out]; exact set_other (fun e => hgq (congrArg Addr.block e).symm) d0
      have k1 : v6.cell? ⟨p, k, none⟩ = some (.bool (f k)) := by rw [← Hv6.out]; exact set_other (fun e => hpq (congrArg Addr.block e).symm) e1
      have k2 : v6.frozen? ⟨p, k, none⟩ = false := by rw [← Hv6.out]; exact set_frozen f1
      obtain ⟨v7, Hv7⟩ : ∃ u, Hid (v6.setCell ⟨p, k, none⟩ (.bool true) = u) := ⟨_, Lib.hid rfl⟩
      have N5 : Hid (Kx w v7 b p q m5 (setL L ((k : Int), x.2, true)) (upd f k true) (upd s k x.2) ∧ (setL L ((k : Int), x.2, true)).length ≤ j + 1 ∧ (0 < n → ∃ g' off', (some (⟨g, off, none⟩ : Addr)) = some ⟨g', off', none⟩ ∧ Rw v7 g' off' cs (j + 1) ∧ g' ≠ b ∧ g' ≠ p ∧ g' ≠ q ∧ w.heap.size ≤ g' ∧ m5 ≠ some g')) := Lib.hid (by
        have M : Mod (fun y => y = p ∨ y = q) v v7 := by
          rw [← Hv7.out, ← Hv6.out]
          exact (((Mod.refl _ v).setCell (p := ⟨q, k, none⟩) (.inl (.inr rfl)) _).drew).setCell (p := ⟨p, k, none⟩) (.inl (.inl rfl)) _
        have ap' : Ar v7 p 32 (gB (upd f k true)) := by
          rw [← Hv7.out, ← Hv6.out]
          exact ((G5.out.2.2.1.apart (fun e => hpq e.symm) _).below (Below.refl _ _).drew).set hk32 _ (gB_upd f k true)
        have aq' : Ar v7 q 32 (gS (upd s k x.2)) := by
          rw [← Hv7.out, ← Hv6.out]
          exact ((G5.out.2.2.2.set hk32 _ (gS_upd s k x.2)).below (Below.refl _ _).drew).apart hpq _
        refine ⟨L4.out.1.mk' G5.out.1 G5.out.2.1 M ap' aq' (HC.out.1.rng.set hk32 _) (HC.out.1.tie.set HC.out.1.kc.ca.rise k x.2), Nat.le_trans (setL_length_le _ _) (by have := HC.out.2.1; omega), fun _ => ⟨g, off, rfl, V5.out.1.later M (fun e => e.elim hgp hgq), hgb, hgp, hgq, hgl, hm5.out⟩⟩)
      clear q0 q1 d0 d1 e1 e2 f1 f2
      go_wp2_with fail
      rw [Hv7.out]
      go_roundw
      case rel => exact ⟨j + 1, m5, _, _, _, by omega, by go_num, N5⟩
      case measure => simp [intOf]; omega
    · obtain rfl : j = n := by omega
      have hLn : L.length ≤ 12 := Nat.le_trans HC.out.2.1 hn12
      have HX := Lib.hid HC.out.1
      clear HC
      obtain ⟨wA, rfl⟩ : ∃ x, x = wr := ⟨_, rfl⟩
      go_wp2_with fail
      have hl_w6 := Lib.hid (H1.out.1.below HX.out.kc.below)
      refine (small18_any _ _ _ l1 wA hl_w6.out H1.out.2).mono ?_
      rintro e w6 ⟨AA, nn, cc, rfl, gr, gn, gb⟩
      have hnl : (cutC l1).length = nn := by
        obtain ⟨A', c', e⟩ := gr.shape
        injection e with _ e
        exact e.symm
      have hn_w6 : nn ≤ 12 := by rw [← hnl]; exact cutC_length l1
      have Hnl_w6 := Lib.hid hnl
      obtain ⟨ds, Hcs_w6⟩ : ∃ x, Hid (cutC l1 = x) := ⟨_, Lib.hid rfl⟩
      rw [Hcs_w6.out] at Hnl_w6 gr
      have G_w6 : Hid (Kx w w6 b p q m L f s ∧ IsG w6 2 encC AA nn ds ∧ Apart AA nn b p q m) := Lib.hid (by
        have h2 := HX.out.kc.ca.lt
        have h3 := HX.out.ab.lt
        have h4 := HX.out.sb.lt
        refine ⟨HX.out.later gb, (gr.is encC_ok).1, ⟨fun g off e _ => ⟨?_, fun e2 => ?_⟩, fun g off e _ => ?_⟩⟩
        · have h1 := gn g (by rw [e]; rfl)
          omega
        · have h1 := gn g (by rw [e]; rfl)
          have := (HX.out.kc.ca.ne e2).2
          omega
        · have h1 := gn g (by rw [e]; rfl)
          omega)
      clear gr gn gb hnl
      go_wp2_with fail
      go_loopw [14] (fun i wy => ∃ (j : Nat) (m : Option Nat) (L : List Li), j ≤ nn ∧ i = .int .i64 j ∧ Hid (Kx w wy b p q m L f s ∧ L.length ≤ 12 + j ∧ IsG wy 2 encC AA nn ds ∧ Apart AA nn b p q m)) (fun i _ => nn - (intOf i).toNat)
      case atStart => exact ⟨0, m, L, Nat.zero_le _, rfl, Lib.hid ⟨G_w6.out.1, hLn, G_w6.out.2.1, G_w6.out.2.2⟩⟩
      case round =>
        clear hLn
        obtain ⟨j, m, L, hj, rfl, HC⟩ := hrel
        by_cases hlt : j < nn
        · obtain ⟨x, Hx⟩ : ∃ x, Hid (ds[j]? = some x) := ⟨ds[j]'(by have := Hnl_w6.out; omega), Lib.hid (List.getElem?_eq_getElem _)⟩
          obtain ⟨g, off, rfl, hgl, hc⟩ := HC.out.2.2.1.cells (by omega)
          have c0 := hc j x 0 _ Hx.out rfl
          have c1 := hc j x 1 _ Hx.out rfl
          rw [Nat.add_zero] at c0
          obtain ⟨k, Hk, hk31⟩ := and_mask x.1 31 (by decide)
          have hk : bits .and .i64 x.1 31 = (k : Int) := Hk.out
          have hk32 : k < 32 := by omega
          have hk32' : (k : Int) < 32 := by omega
          have hkw : Hid ((Lit.int .i64 (k : Int)).wf = true) := Lib.hid (WalkArith.wf_i64 (by omega))
          have e1 : wr.cell? ⟨p, k, none⟩ = some (.bool (f k)) := HC.out.1.ab.cell k (by omega)
          obtain ⟨fk, Hfk⟩ : ∃ fk, Hid (f k = fk) := ⟨_, Lib.hid rfl⟩
          obtain ⟨lk, Hlk⟩ : ∃ lk, Hid ((look L (k : Int)).isNone = lk) := ⟨_, Lib.hid rfl⟩
          have Hfl : Hid (fk = true → lk = false) := Lib.hid (fun e => by
            rw [← Hlk.out, (HC.out.1.tie k hk32).1 (Hfk.out.trans e)]
            rfl)
          rw [Hfk.out] at e1
          clear hc
          have Tst : Hid (∀ w8 m8, Ca w8 b m8 (loadL L (k : Int) x.2) → CaTo wr.drew w8 b m m8 → w8.cell? ⟨p, k, none⟩ = some (.bool fk) ∧ w8.cell? ⟨g, off + j * 2 + 1, none⟩ = some (.string (str x.2)) ∧
              (Kx w w8 b p q m8 (loadL L (k : Int) x.2) f s ∧ (loadL L (k : Int) x.2).length ≤ 12 + (j + 1) ∧ IsG w8 2 encC (some ⟨g, off, none⟩) nn ds ∧ Apart (some ⟨g, off, none⟩) nn b p q m8)) := Lib.hid (fun w8 m8 c8 t8 => by
            have hd : Below wr.heap.size wr wr.drew := (Below.refl _ _).drew
            have K8 := HC.out.1.later hd
            have g8 := HC.out.2.2.1.below hd
            have hg8 := g8.to HC.out.2.2.2.aside t8
            obtain ⟨ap, aq⟩ := K8.ars t8
            refine ⟨by rw [← Hfk.out]; exact ap.cell k hk32, ?_, K8.mk' c8 t8 (Mod.refl _ _) ap aq (HC.out.1.rng.load hk32 _) (HC.out.1.tie.load HC.out.1.kc.ca.rise k x.2), Nat.le_trans (loadL_length _ _ _) (by have := HC.out.2.1; omega), hg8, ⟨HC.out.2.2.2.aside.to t8 g8, HC.out.2.2.2.two⟩⟩
            obtain ⟨g', off', eg, _, hc⟩ := hg8.cells (by omega)
            injection eg with eg
            injection eg with eg1 eg2
            subst eg1 eg2
            exact hc j x 1 _ Hx.out rfl)
          have Cd : Hid (Ca wr.drew b m L) := Lib.hid (HC.out.1.kc.ca.below (Below.refl _ _).drew)
          cases fk <;> cases lk
          case false.false =>
            go_wp2_with fail
            haveI := two_in (p := p) (k := k) (g := g) (o := off + j * 2 + 1) (u := wr) ⟨e1, c1⟩
            refine wp_region_mix (by kernel_rfl) (Cls (Two p k g (off + j * 2 + 1) false x.2)) [(0, 0), (1, 0), (2, 0), (3, 0), (4, 0), (5, 0), (6, 0), (8, 0), (9, 0), (10, 0), (7, 1), (11, 0), (12, 0), (13, 0), (14, 0), (15, 0), (16, 0)] (by kernel_rfl) (cls ⟨e1, c1⟩) ?_
            have q0 : ∀ y : In (Two p k g (off + j * 2 + 1) false x.2), y.u.cell? ⟨p, k, none⟩ = some (.bool false) := fun y => y.is.1
            have q1 : ∀ y : In (Two p k g (off + j * 2 + 1) false x.2), y.u.cell? ⟨g, off + j * 2 + 1, none⟩ = some (.string (str x.2)) := fun y => y.is.2
            repeat (refine mix0 rfl (fun K hK => ?_); go_simp; refine hK _ ?_; clear hK K)
            refine mix1 rfl (fun K hK => ?_)
            go_simp
            refine (Load_any Cd.out (k : Int) hkw.out x.2 (by have := HC.out.2.1; unfold maxLen; omega)).mono ?_
            rw [Hlk.out]
            rintro e w8 ⟨rfl, m8, c8, t8⟩
            have T8 := Lib.hid (Tst.out w8 m8 c8 t8)
            refine ⟨_, rfl, hK _ _ (cls ⟨T8.out.1, T8.out.2.1⟩) ?_⟩
            clear hK K c8 t8
            repeat (refine mix0 rfl (fun K hK => ?_); go_simp; refine hK _ ?_; clear hK K)
            refine mixEnd ?_
            clear q0 q1
            go_wp2_with fail
            go_roundw
            case rel => exact ⟨j + 1, m8, _, by omega, by go_num, Lib.hid T8.out.2.2⟩
            case measure => simp [intOf]; omega
          case false.true =>
            go_wp2_with fail
            haveI := two_in (p := p) (k := k) (g := g) (o := off + j * 2 + 1) (u := wr) ⟨e1, c1⟩
            refine wp_region_mix (by kernel_rfl) (Cls (Two p k g (off + j * 2 + 1) false x.2)) [(0, 0), (1, 0), (2, 0), (3, 0), (4, 0), (5, 0), (6, 0), (8, 0), (9, 0), (10, 0), (7, 1), (11, 0), (12, 0), (13, 0), (14, 0), (15, 0), (16, 0)] (by kernel_rfl) (cls ⟨e1, c1⟩) ?_
            have q0 : ∀ y : In (Two p k g (off + j * 2 + 1) false x.2), y.u.cell? ⟨p, k, none⟩ = some (.bool false) := fun y => y.is.1
            have q1 : ∀ y : In (Two p k g (off + j * 2 + 1) false x.2), y.u.cell? ⟨g, off + j * 2 + 1, none⟩ = some (.string (str x.2)) := fun y => y.is.2
            repeat (refine mix0 rfl (fun K hK => ?_); go_simp; refine hK _ ?_; clear hK K)
            refine mix1 rfl (fun K hK => ?_)
            go_simp
            refine (Load_any Cd.out (k : Int) hkw.out x.2 (by have := HC.out.2.1; unfold maxLen; omega)).mono ?_
            rw [Hlk.out]
            rintro e w8 ⟨rfl, m8, c8, t8⟩
            have T8 := Lib.hid (Tst.out w8 m8 c8 t8)
            refine ⟨_, rfl, hK _ _ (cls ⟨T8.out.1, T8.out.2.1⟩) ?_⟩
            clear hK K c8 t8
            repeat (refine mix0 rfl (fun K hK => ?_); go_simp; refine hK _ ?_; clear hK K)
            refine mixEnd ?_
            clear q0 q1
            go_wp2_with fail
            go_roundw
            case rel => exact ⟨j + 1, m8, _, by omega, by go_num, Lib.hid T8.out.2.2⟩
            case measure => simp [intOf]; omega
          case true.false =>
            go_wp2_with fail
            haveI := two_in (p := p) (k := k) (g := g) (o := off + j * 2 + 1) (u := wr) ⟨e1, c1⟩
            refine wp_region_mix (by kernel_rfl) (Cls (Two p k g (off + j * 2 + 1) true x.2)) [(0, 0), (1, 0), (2, 0), (3, 0), (4, 0), (5, 0), (6, 0), (8, 0), (9, 0), (10, 0), (7, 1), (11, 0), (12, 0), (13, 0), (14, 0), (15, 0), (16, 0)] (by kernel_rfl) (cls ⟨e1, c1⟩) ?_
            have q0 : ∀ y : In (Two p k g (off + j * 2 + 1) true x.2), y.u.cell? ⟨p, k, none⟩ = some (.bool true) := fun y => y.is.1
            have q1 : ∀ y : In (Two p k g (off + j * 2 + 1) true x.2), y.u.cell? ⟨g, off + j * 2 + 1, none⟩ = some (.string (str x.2)) := fun y => y.is.2
            repeat (refine mix0 rfl (fun K hK => ?_); go_simp; refine hK _ ?_; clear hK K)
            refine mix1 rfl (fun K hK => ?_)
            go_simp
            refine (Load_any Cd.out (k : Int) hkw.out x.2 (by have := HC.out.2.1; unfold maxLen; omega)).mono ?_
            rw [Hlk.out]
            rintro e w8 ⟨rfl, m8, c8, t8⟩
            have T8 := Lib.hid (Tst.out w8 m8 c8 t8)
            refine ⟨_, rfl, hK _ _ (cls ⟨T8.out.1, T8.out.2.1⟩) ?_⟩
            clear hK K c8 t8
            repeat (refine mix0 rfl (fun K hK => ?_); go_simp; refine hK _ ?_; clear hK K)
            refine mixEnd ?_
            clear q0 q1
            go_wp2_with fail
            go_roundw
            case rel => exact ⟨j + 1, m8, _, by omega, by go_num, Lib.hid T8.out.2.2⟩
            case measure => simp [intOf]; omega
          case true.true => exact absurd (Hfl.out rfl) (by simp)
        · obtain rfl : j = nn := by omega
          have hLn : L.length ≤ 24 := by have := HC.out.2.1; omega
          have HX2 := Lib.hid HC.out.1
          clear HC
          obtain ⟨wB, rfl⟩ : ∃ x, x = wr := ⟨_, rfl⟩
          go_wp2_with fail
          have hl_w7 := Lib.hid (H2.out.1.below HX2.out.kc.below)
          refine (small18_any _ _ _ l2 wB hl_w7.out H2.out.2).mono ?_
          rintro e w7 ⟨AC, nc, dc, rfl, gr, gn, gb⟩
          have hnl : (cutC l2).length = nc := by
            obtain ⟨A', c', e⟩ := gr.shape
            injection e with _ e
            exact e.symm
          have hn_w7 : nc ≤ 12 := by rw [← hnl]; exact cutC_length l2
          have Hnl_w7 := Lib.hid hnl
          obtain ⟨es, Hcs_w7⟩ : ∃ x, Hid (cutC l2 = x) := ⟨_, Lib.hid rfl⟩
          rw [Hcs_w7.out] at Hnl_w7 gr
          have G_w7 : Hid (Kx w w7 b p q m L f s ∧ IsG w7 2 encC AC nc es ∧ Apart AC nc b p q m) := Lib.hid (by
            have h2 := HX2.out.kc.ca.lt
            have h3 := HX2.out.ab.lt
            have h4 := HX2.out.sb.lt
            refine ⟨HX2.out.later gb, (gr.is encC_ok).1, ⟨fun g off e _ => ⟨?_, fun e2 => ?_⟩, fun g off e _ => ?_⟩⟩
            · have h1 := gn g (by rw [e]; rfl)
              omega
            · have h1 := gn g (by rw [e]; rfl)
              have := (HX2.out.kc.ca.ne e2).2
              omega
            · have h1 := gn g (by rw [e]; rfl)
              omega)
          clear gr gn gb hnl
          go_wp2_with fail
          go_loopw [17] (fun i wy => ∃ (j : Nat) (m : Option Nat), j ≤ nc ∧ i = .int .i64 j ∧ Hid (Kx w wy b p q m L f s ∧ IsG wy 2 encC AC nc es ∧ Apart AC nc b p q m)) (fun i _ => nc - (intOf i).toNat)
          case atStart => exact ⟨0, m, Nat.zero_le _, rfl, Lib.hid ⟨G_w7.out.1, G_w7.out.2.1, G_w7.out.2.2⟩⟩
          case round =>
            obtain ⟨j, m, hj, rfl, HC⟩ := hrel
            by_cases hlt : j < nc
            · obtain ⟨x, Hx⟩ : ∃ x, Hid (es[j]? = some x) := ⟨es[j]'(by have := Hnl_w7.out; omega), Lib.hid (List.getElem?_eq_getElem _)⟩
              obtain ⟨g, off, rfl, hgl, hc⟩ := HC.out.2.1.cells (by omega)
              have c0 := hc j x 0 _ Hx.out rfl
              have c1 := hc j x 1 _ Hx.out rfl
              rw [Nat.add_zero] at c0
              obtain ⟨k, Hk, hk31⟩ := and_mask x.1 31 (by decide)
              have hk : bits .and .i64 x.1 31 = (k : Int) := Hk.out
              have hk32 : k < 32 := by omega
              have hk32' : (k : Int) < 32 := by omega
              have hkw : Hid ((Lit.int .i64 (k : Int)).wf = true) := Lib.hid (WalkArith.wf_i64 (by omega))
              have e1 : wr.cell? ⟨p, k, none⟩ = some (.bool (f k)) := HC.out.1.ab.cell k (by omega)
              have e2 : wr.cell? ⟨q, k, none⟩ = some (.string (str (s k))) := HC.out.1.sb.cell k (by omega)
              have hpl := HC.out.1.ab.lt
              have hql := HC.out.1.sb.lt
              obtain ⟨fk, Hfk⟩ : ∃ fk, Hid (f k = fk) := ⟨_, Lib.hid rfl⟩
              obtain ⟨sk, Hsk⟩ : ∃ sk, Hid (s k = sk) := ⟨_, Lib.hid rfl⟩
              rw [Hfk.out] at e1
              rw [Hsk.out] at e2
              clear hc
              have HCd : Hid (Kx w wr.drew b p q m L f s ∧ IsG wr.drew 2 encC (some ⟨g, off, none⟩) nc es ∧ Apart (some ⟨g, off, none⟩) nc b p q m) := Lib.hid ⟨HC.out.1.later (Below.refl _ _).drew, HC.out.2.1.below (Below.refl _ _).drew, HC.out.2.2⟩
              have Tst : Hid (¬ (fk = true ∧ x.2 = sk) → cleanN L [((k : Int), x.2)] = 0 ∧ cleanL L [((k : Int), x.2)] = L) := Lib.hid (fun h => HC.out.1.tie.none hk32 x.2 (by rw [Hfk.out, Hsk.out]; exact h))
              obtain ⟨wd, Hwd⟩ : ∃ u, Hid (wr.drew = u) := ⟨_, Lib.hid rfl⟩
              have c1d : wd.cell? ⟨g, off + j * 2 + 1, none⟩ = some (.string (str x.2)) := by rw [← Hwd.out]; exact c1
              cases fk
              case false =>
                have HT := Lib.hid (Tst.out (by simp))
                go_wp2_with fail
                refine wp_region_mix (by kernel_rfl) (Cls (Abv wr)) [(0, 0), (1, 0), (2, 0), (3, 0), (4, 0), (5, 0), (6, 0), (7, 0), (8, 0), (9, 0), (10, 0), (11, 0), (12, 0), (13, 0)] (by kernel_rfl) (cls (Below.refl _ _).drew) ?_
                have q0 : ∀ y : In (Abv wr), y.u.cell? ⟨p, k, none⟩ = some (.bool false) := fun y => (y.is.cell (p := ⟨p, k, none⟩) hpl).trans e1
                have q1 : ∀ y : In (Abv wr), y.u.cell? ⟨g, off + j * 2 + 1, none⟩ = some (.string (str x.2)) := fun y => (y.is.cell (p := ⟨g, off + j * 2 + 1, none⟩) hgl).trans c1
                have q2 : ∀ y : In (Abv wr), y.u.cell? ⟨q, k, none⟩ = some (.string (str sk)) := fun y => (y.is.cell (p := ⟨q, k, none⟩) hql).trans e2
                repeat (refine mix0 rfl (fun K hK => ?_); go_simp; refine hK _ ?_; clear hK K)
                refine mixEnd ?_
                clear q0 q1 q2
                rw [Hwd.out]
                go_wp2_with fail
                refine (one_any _ x.2 _).mono ?_
                rintro e w8 ⟨rfl, b8⟩
                obtain ⟨u8, Hu8⟩ : ∃ u, Hid (w8.alloc (.cells #[.int .i64 (k : Int), .string (str x.2)] 36) = u) := ⟨_, Lib.hid rfl⟩
                obtain ⟨p8, Hp8⟩ : ∃ p, Hid (w8.heap.size = p) := ⟨_, Lib.hid rfl⟩
                have KK : Hid (Kx w w8 b p q m L f s ∧ IsG w8 2 encC (some ⟨g, off, none⟩) nc es) := Lib.hid ⟨(by have h := HCd.out.1; rw [Hwd.out] at h; exact h.later b8), (by have h := HCd.out.2.1; rw [Hwd.out] at h; exact h.below b8)⟩
                have G8 := Lib.hid (KK.out.1.kc.box ((k : Int), x.2) Hu8.out Hp8.out)
                have L8 : Hid (Kx w u8 b p q m L f s ∧ IsG u8 2 encC (some ⟨g, off, none⟩) nc es) := Lib.hid ⟨KK.out.1.later G8.out.2.2.2, KK.out.2.below G8.out.2.2.2⟩
                clear b8
                go_wp2_with fail
                rw [Hu8.out, Hp8.out]
                refine (Clean_any G8.out.2.1.ca _ 1 1 [((k : Int), x.2)] G8.out.1 G8.out.2.2.1 (by intro y hy; simp at hy; subst hy; exact hkw.out) (by unfold maxLen; omega)).mono ?_
                rw [HT.out.1, HT.out.2]
                rintro e w9 ⟨rfl, m9, c9, t9⟩
                have N9 : Hid (Kx w w9 b p q m9 L f s ∧ IsG w9 2 encC (some ⟨g, off, none⟩) nc es ∧ Apart (some ⟨g, off, none⟩) nc b p q m9) := Lib.hid (by
                  obtain ⟨ap, aq⟩ := L8.out.1.ars t9
                  exact ⟨L8.out.1.mk' c9 t9 (Mod.refl _ _) ap aq HC.out.1.rng HC.out.1.tie, L8.out.2.to HC.out.2.2.aside t9, ⟨HC.out.2.2.aside.to t9 L8.out.2, HC.out.2.2.two⟩⟩)
                clear c9 t9
                go_wp2_with fail
                go_roundw
                case rel => exact ⟨j + 1, m9, by omega, by go_num, N9⟩
                case measure => simp [intOf]; omega
              case true =>
                by_cases hx : x.2 = sk
                · subst hx
                  go_wp2_with fail
                  refine wp_region_mix (by kernel_rfl) (Cls (Abv wr)) [(0, 0), (1, 0), (2, 0), (3, 0), (4, 0), (5, 0), (6, 0), (7, 0), (8, 0), (9, 0), (10, 0), (11, 0), (12, 0), (13, 0)] (by kernel_rfl) (cls (Below.refl _ _).drew) ?_
                  have q0 : ∀ y : In (Abv wr), y.u.cell? ⟨p, k, none⟩ = some (.bool true) := fun y => (y.is.cell (p := ⟨p, k, none⟩) hpl).trans e1
                  have q1 : ∀ y : In (Abv wr), y.u.cell? ⟨g, off + j * 2 + 1, none⟩ = some (.string (str x.2)) := fun y => (y.is.cell (p := ⟨g, off + j * 2 + 1, none⟩) hgl).trans c1
                  have q2 : ∀ y : In (Abv wr), y.u.cell? ⟨q, k, none⟩ = some (.string (str x.2)) := fun y => (y.is.cell (p := ⟨q, k, none⟩) hql).trans e2
                  repeat (refine mix0 rfl (fun K hK => ?_); go_simp; refine hK _ ?_; clear hK K)
                  refine mixEnd ?_
                  clear q0 q1 q2
                  rw [Hwd.out]
                  go_wp2_with fail
                  go_roundw
                  case rel => exact ⟨j + 1, m, by omega, by go_num, Lib.hid (by rw [← Hwd.out]; exact HCd.out)⟩
                  case measure => simp [intOf]; omega
                · have HT := Lib.hid (Tst.out (fun h => hx h.2))
                  have hne : (x.2 == sk) = false := by simp [hx]
                  clear hx
                  go_wp2_with fail
                  refine wp_region_mix (by kernel_rfl) (Cls (Abv wr)) [(0, 0), (1, 0), (2, 0), (3, 0), (4, 0), (5, 0), (6, 0), (7, 0), (8, 0), (9, 0), (10, 0), (11, 0), (12, 0), (13, 0)] (by kernel_rfl) (cls (Below.refl _ _).drew) ?_
                  have q0 : ∀ y : In (Abv wr), y.u.cell? ⟨p, k, none⟩ = some (.bool true) := fun y => (y.is.cell (p := ⟨p, k, none⟩) hpl).trans e1
                  have q1 : ∀ y : In (Abv wr), y.u.cell? ⟨g, off + j * 2 + 1, none⟩ = some (.string (str x.2)) := fun y => (y.is.cell (p := ⟨g, off + j * 2 + 1, none⟩) hgl).trans c1
                  have q2 : ∀ y : In (Abv wr), y.u.cell? ⟨q, k, none⟩ = some (.string (str sk)) := fun y => (y.is.cell (p := ⟨q, k, none⟩) hql).trans e2
                  repeat (refine mix0 rfl (fun K hK => ?_); go_simp; refine hK _ ?_; clear hK K)
                  refine mixEnd ?_
                  clear q0 q1 q2
                  rw [Hwd.out]
                  go_wp2_with fail
                  refine (one_any _ x.2 _).mono ?_
                  rintro e w8 ⟨rfl, b8⟩
                  obtain ⟨u8, Hu8⟩ : ∃ u, Hid (w8.alloc (.cells #[.int .i64 (k : Int), .string (str x.2)] 36) = u) := ⟨_, Lib.hid rfl⟩
                  obtain ⟨p8, Hp8⟩ : ∃ p, Hid (w8.heap.size = p) := ⟨_, Lib.hid rfl⟩
                  have KK : Hid (Kx w w8 b p q m L f s ∧ IsG w8 2 encC (some ⟨g, off, none⟩) nc es) := Lib.hid ⟨(by have h := HCd.out.1; rw [Hwd.out] at h; exact h.later b8), (by have h := HCd.out.2.1; rw [Hwd.out] at h; exact h.below b8)⟩
                  have G8 := Lib.hid (KK.out.1.kc.box ((k : Int), x.2) Hu8.out Hp8.out)
                  have L8 : Hid (Kx w u8 b p q m L f s ∧ IsG u8 2 encC (some ⟨g, off, none⟩) nc es) := Lib.hid ⟨KK.out.1.later G8.out.2.2.2, KK.out.2.below G8.out.2.2.2⟩
                  clear b8
                  go_wp2_with fail
                  rw [Hu8.out, Hp8.out]
                  refine (Clean_any G8.out.2.1.ca _ 1 1 [((k : Int), x.2)] G8.out.1 G8.out.2.2.1 (by intro y hy; simp at hy; subst hy; exact hkw.out) (by unfold maxLen; omega)).mono ?_
                  rw [HT.out.1, HT.out.2]
                  rintro e w9 ⟨rfl, m9, c9, t9⟩
                  have N9 : Hid (Kx w w9 b p q m9 L f s ∧ IsG w9 2 encC (some ⟨g, off, none⟩) nc es ∧ Apart (some ⟨g, off, none⟩) nc b p q m9) := Lib.hid (by
                    obtain ⟨ap, aq⟩ := L8.out.1.ars t9
                    exact ⟨L8.out.1.mk' c9 t9 (Mod.refl _ _) ap aq HC.out.1.rng HC.out.1.tie, L8.out.2.to HC.out.2.2.aside t9, ⟨HC.out.2.2.aside.to t9 L8.out.2, HC.out.2.2.two⟩⟩)
                  clear c9 t9
                  go_wp2_with fail
                  go_roundw
                  case rel => exact ⟨j + 1, m9, by omega, by go_num, N9⟩
                  case measure => simp [intOf]; omega
            · obtain rfl : j = nc := by omega
              have HX3 := Lib.hid HC.out.1
              clear HC
              obtain ⟨wC, rfl⟩ : ∃ x, x = wr := ⟨_, rfl⟩
              go_wp2_with fail
              go_loopw [19, 20] (fun mq i wy => ∃ t M : Nat, t ≤ 32 ∧ i = .int .i64 t ∧ mq = .int .i64 (M : Int) ∧ Hid (M = cntTo L (fun x => inR 0 32 x.1 && x.2.2) t ∧ Below wC.heap.size wC wy)) (fun _ i _ => 32 - (intOf i).toNat)
              case atStart => exact ⟨0, 0, by omega, rfl, rfl, Lib.hid ⟨(cnt_zero HX3.out.rng _).symm, Below.refl _ _⟩⟩
              case round =>
                obtain ⟨t, M, ht, rfl, rfl, HT⟩ := hrel
                have hM : M ≤ 24 := by rw [HT.out.1]; exact Nat.le_trans (cnt_le _ _ _) hLn
                by_cases htl : t < 32
                · have htl' : (t : Int) < 32 := by omega
                  obtain ⟨tx, Htx⟩ : ∃ x, Hid ((kvOf L (t : Int)).1 = x) := ⟨_, Lib.hid rfl⟩
                  obtain ⟨ti, Hti⟩ : ∃ x, Hid ((look L (t : Int)).isSome = x) := ⟨_, Lib.hid rfl⟩
                  obtain ⟨ft, Hft⟩ : ∃ x, Hid (f t = x) := ⟨_, Lib.hid rfl⟩
                  have Hms := Lib.hid (many_step HX3.out.kc.ca.rise HX3.out.tie htl)
                  rw [Hft.out, ← HT.out.1] at Hms
                  have Htt : Hid (ft = true → tx = s t ∧ ti = true) := Lib.hid (fun e => by
                    have h := (HX3.out.tie t htl).1 (Hft.out.trans e)
                    rw [← Htx.out, ← Hti.out, kvOf, h]
                    exact ⟨rfl, rfl⟩)
                  go_wp2_with fail
                  refine (Get_any (HX3.out.later HT.out.2).kc.ca (t : Int) (WalkArith.wf_i64 (by omega))).mono ?_
                  rw [Htx.out, Hti.out]
                  rintro e wG ⟨rfl, bG⟩
                  have HBG : Hid (Below wC.heap.size wC wG) := Lib.hid (bnext HT.out.2 bG)
                  have KG := HX3.out.later HBG.out
                  have e1 : wG.cell? ⟨p, t, none⟩ = some (.bool ft) := by rw [← Hft.out]; exact KG.ab.cell t htl
                  have e2 : wG.cell? ⟨q, t, none⟩ = some (.string (str (s t))) := KG.sb.cell t htl
                  clear bG KG
                  cases ft
                  · have NM : Hid (M = cntTo L (fun x => inR 0 32 x.1 && x.2.2) (t + 1)) := Lib.hid (by rw [Hms.out]; simp)
                    go_wp2_with fail
                    go_roundw
                    case rel => exact ⟨t + 1, M, by omega, by go_num, rfl, Lib.hid ⟨NM.out, HBG.out⟩⟩
                    case measure => simp [intOf]; omega
                  · have NM : Hid (M + 1 = cntTo L (fun x => inR 0 32 x.1 && x.2.2) (t + 1)) := Lib.hid (by rw [Hms.out]; simp)
                    rw [← (Htt.out rfl).1] at e2
                    have hti := (Htt.out rfl).2
                    go_wp2_with fail
                    go_roundw
                    case rel => exact ⟨t + 1, M + 1, by omega, by go_num, by go_num, Lib.hid ⟨NM.out, HBG.out⟩⟩
                    case measure => simp [intOf]; omega
                · obtain rfl : t = 32 := by omega
                  obtain ⟨hc1, hc2, hc3, hc4⟩ := keeps_clean HX3.out.kc.ca.rise HX3.out.rng HX3.out.tie
                  have hdm : (dirtyL L 0 32).length = M := by rw [dirtyN, HT.out.1, cnt_all HX3.out.rng]
                  have hdw : ∀ y ∈ dirtyL L 0 32, (Lit.int .i64 y.1).wf = true := fun y hy => by
                    obtain ⟨z, hz, rfl⟩ := List.mem_map.1 hy
                    exact HX3.out.kc.ca.wf z (List.mem_filter.1 hz).1
                  obtain ⟨D, HD⟩ : ∃ D, Hid (dirtyL L 0 32 = D) := ⟨_, Lib.hid rfl⟩
                  rw [HD.out] at hc1 hc2 hc3 hc4 hdm hdw
                  obtain ⟨E, HE⟩ : ∃ E, Hid (cleanL L D = E) := ⟨_, Lib.hid rfl⟩
                  rw [HE.out] at hc2 hc3 hc4
                  have HC1 : Hid (cleanN L D = M) := Lib.hid (hc1.trans hdm)
                  have HC2 := Lib.hid hc2
                  have HC3 := Lib.hid hc3
                  have HC4 := Lib.hid hc4
                  have HDM := Lib.hid hdm
                  have HDW := Lib.hid hdw
                  clear hc1 hc2 hc3 hc4 hdm hdw
                  have KY := Lib.hid (HX3.out.later HT.out.2)
                  go_wp2_with fail
                  refine (Dirty_any KY.out.kc.ca 0 32 (by omega)).mono ?_
                  rw [HD.out]
                  rintro e wD ⟨AD, nD, cD, rfl, gD, lD, bD⟩
                  obtain rfl : nD = M := by
                    obtain ⟨A', c', e⟩ := gD.shape
                    injection e with _ e
                    exact e.trans HDM.out
                  have KD : Hid (Kx w wD b p q m L f s ∧ IsG wD 2 encC AD nD D ∧ Aside AD nD b m) := Lib.hid ⟨KY.out.later bD, (gD.is encC_ok).1, fun g off e _ => by
                    have h1 := lD g (by rw [e]; rfl)
                    have h2 := KY.out.kc.ca.lt
                    refine ⟨by omega, fun e3 => ?_⟩
                    have := (KY.out.kc.ca.ne e3).2
                    omega⟩
                  clear gD lD bD
                  go_wp2_with fail
                  refine (Clean_any KD.out.1.kc.ca AD nD cD D KD.out.2.1 KD.out.2.2 HDW.out (by unfold maxLen; omega)).mono ?_
                  rw [HC1.out, HE.out]
                  rintro e wE ⟨rfl, mE, cE, tE⟩
                  have KE : Hid (KC w wE b mE E ∧ Ar wE p 32 (gB f) ∧ Ar wE q 32 (gS s) ∧ p ≠ b ∧ q ≠ b ∧ (∀ g, mE = some g → g ≠ p) ∧ (∀ g, mE = some g → g ≠ q)) := Lib.hid ⟨KD.out.1.kc.to cE tE, (KD.out.1.ars tE).1, (KD.out.1.ars tE).2, KD.out.1.pb, KD.out.1.qb, tE.ne KD.out.1.pm KD.out.1.ab.lt, tE.ne KD.out.1.qm KD.out.1.sb.lt⟩
                  have hEl : E.length ≤ 24 := by rw [← HE.out, cleanL_length KD.out.1.kc.ca.rise]; exact hLn
                  clear cE tE
                  go_wp2_with fail
                  refine (Dirty_any KE.out.1.ca 0 32 (by omega)).mono ?_
                  rw [HC2.out]
                  rintro e wF ⟨AF, nF, cF, rfl, gF, _, bF⟩
                  obtain rfl : nF = 0 := by
                    obtain ⟨A', c', e⟩ := gF.shape
                    injection e with _ e
                  have KF := Lib.hid (KE.out.1.later bF)
                  have AF1 : Hid (Ar wF p 32 (gB f) ∧ Ar wF q 32 (gS s)) := Lib.hid ⟨KE.out.2.1.below bF, KE.out.2.2.1.below bF⟩
                  clear gF bF
                  go_wp2_with fail
                  go_loopw [24] (fun i wy => ∃ t : Nat, t ≤ 32 ∧ i = .int .i64 t ∧ Hid (Below wF.heap.size wF wy)) (fun i _ => 32 - (intOf i).toNat)
                  case atStart => exact ⟨0, by omega, rfl, Lib.hid (Below.refl _ _)⟩
                  case round =>
                    obtain ⟨t, ht, rfl, HB⟩ := hrel
                    by_cases htl : t < 32
                    · have htl' : (t : Int) < 32 := by omega
                      obtain ⟨tx, Htx⟩ : ∃ x, Hid ((kvOf E (t : Int)).1 = x) := ⟨_, Lib.hid rfl⟩
                      obtain ⟨ti, Hti⟩ : ∃ x, Hid ((look E (t : Int)).isSome = x) := ⟨_, Lib.hid rfl⟩
                      obtain ⟨ft, Hft⟩ : ∃ x, Hid (f t = x) := ⟨_, Lib.hid rfl⟩
                      have Htt : Hid (ft = true → tx = s t ∧ ti = true) := Lib.hid (fun e => by
                        have h := HC4.out t htl (Hft.out.trans e)
                        rw [← Htx.out, ← Hti.out, kvOf, h]
                        exact ⟨rfl, rfl⟩)
                      go_wp2_with fail
                      refine (Get_any (KF.out.later HB.out).ca (t : Int) (WalkArith.wf_i64 (by omega))).mono ?_
                      rw [Htx.out, Hti.out]
                      rintro e wG ⟨rfl, bG⟩
                      have HBG : Hid (Below wF.heap.size wF wG) := Lib.hid (bnext HB.out bG)
                      have e1 : wG.cell? ⟨p, t, none⟩ = some (.bool ft) := by rw [← Hft.out]; exact (AF1.out.1.below HBG.out).cell t htl
                      have e2 : wG.cell? ⟨q, t, none⟩ = some (.string (str (s t))) := (AF1.out.2.below HBG.out).cell t htl
                      clear bG
                      cases ft
                      · go_wp2_with fail
                        go_roundw
                        case rel => exact ⟨t + 1, by omega, by go_num, HBG⟩
                        case measure => simp [intOf]; omega
                      · rw [← (Htt.out rfl).1] at e2
                        have hti := (Htt.out rfl).2
                        go_wp2_with fail
                        go_roundw
                        case rel => exact ⟨t + 1, by omega, by go_num, HBG⟩
                        case measure => simp [intOf]; omega
                    · obtain rfl : t = 32 := by omega
                      have KZ := Lib.hid (KF.out.later HB.out)
                      go_wp2_with fail
                      refine (Drop_any KZ.out.ca 0 32 (by omega)).mono ?_
                      rw [HC2.out, drop_all HC3.out]
                      rintro e wH ⟨rfl, cH, tH⟩
                      have KH := Lib.hid (KZ.out.to cH tH)
                      clear cH tH
                      go_wp2_with fail
                      refine (CLen_any KH.out.ca).mono ?_
                      rintro e wI ⟨rfl, rfl⟩
                      go_wp2
                      go_ret
                      exact ⟨rfl, KH.out.below⟩

theorem own : ownKnob Try.prog.godebug = none := by kernel_rfl
theorem laidOut : laidOutB Try.prog = true := by kernel_rfl
set_option maxRecDepth 100000 in
theorem lifted (os : Os) (started : os.Started) (H : Type) (enc : TypeId × Value → H) :
    ReturnsInHanded {} Try.checked os 4 .any (Rows.cacheKeepsSpec.pre6 enc Try.prog Try.f4 Rows.cacheKeepsRow.domain false) (Rows.cacheKeepsSpec.post enc Try.prog Try.f4 false true false false) := by
  refine returnsInHanded_of_change (C := Try.checked) own started (by kernel_rfl) Try.func4
    (ChangeSpec.witness6 (enc := enc) (C := Try.checked) false ⟨#[], #[.slice none 0 0, .slice none 0 0, .slice none 0 0], []⟩ 8 (by kernel_rfl) (by kernel_rfl) (by kernel_rfl) (by kernel_rfl)) ?_
  intro W base args ds gs before hval0 hW hcnd _
  have hval : ∀ (j : Nat) t v, Try.f4.params[j]? = some t → args[j]? = some v → Value.okWide Try.prog W .any base t v := hval0
  have hW' := hW
  obtain ⟨p, q, hA0, hV, rfl, hfz, hnd⟩ := hW
  have hA : DataW.TrodAll enc Try.prog W 0 (fun _ => true) true Try.f4.params.toList args.toList ds p := hA0
  rw [Try.params4] at hA hval
  obtain ⟨v0, vs0, d0, ds0, p0, q0, hargs, rfl, rfl, h0, r0⟩ := trodAll_cons hA
  obtain ⟨v1, vs1, d1, ds1, p1, q1, rfl, rfl, rfl, h1, r1⟩ := trodAll_cons r0
  obtain ⟨v2, vs2, d2, ds2, p2, q2, rfl, rfl, rfl, h2, r2⟩ := trodAll_cons r1
  obtain ⟨rfl, rfl, rfl⟩ := trodAll_nil r2
  obtain rfl : args = #[v0, v1, v2] := by cases args; simp_all
  obtain ⟨x0, len0, cap0, a0, rfl, w0⟩ := opens_chs (hval 0 30 v0 rfl rfl) h0
  obtain ⟨x1, len1, cap1, a1, rfl, w1⟩ := opens_chs (hval 1 30 v1 rfl rfl) h1
  obtain ⟨x2, len2, cap2, a2, rfl, w2⟩ := opens_chs (hval 2 30 v2 rfl rfl) h2
  clear hA0 hval0
  refine (walk x0 len0 cap0 a0 x1 len1 cap1 a1 x2 len2 cap2 a2 W w0 w1 w2).mono fun e W' ⟨he, bel⟩ => ?_
  subst he
  exact ⟨_, rfl, law_post laidOut (by rw [Try.params4]; decide +kernel) rfl Try.underlying4 rfl hW' (fun _ => rfl) bel⟩
theorem over : Rows.cacheKeepsRow.holds Try.pinned (OpenSpec.ofChange Rows.cacheKeepsSpec) :=
  OpenClaim.holds_of_wide 4 Try.f4 rfl rfl rfl rfl rfl rfl rfl ⟨rfl, rfl, rfl, rfl, rfl⟩ rfl rfl rfl rfl rfl (by kernel_rfl) Try.func4 (by kernel_rfl)
    (of_decide_eq_true (by kernel_rfl)) (by unfold Func.isWrapper; first | (rw [if_pos (by decide +kernel)]; kernel_rfl) | (rw [if_neg (by decide +kernel)]; exact ⟨rfl, rfl⟩))
    (fun os started H enc _ => lifted os started H enc)
theorem proved : Rows.CacheKeepsSaid := over
end Go.Proofs.Ytocnpjmhkgnomaa.cacheKeeps
