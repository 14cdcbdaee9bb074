/- Sectors are known, put, cleaned and dropped, call by call, as P18.1 and P18.2 say. No condition. -/
import Derived.Test.YtocnpjmhkgnomaaRows
import Derived.Test.YtocnpjmhkgnomaaPl18
import Derived.Deep.CutBlock
namespace Go.Proofs.Ytocnpjmhkgnomaa.cachePlays
open Go.RowKit Go.ChangeShapes Go.WideShapes Go.ChangeAt
open Go.ChangeMaps (open_string shut_string)

abbrev Sq (q : Nat) (x y : Int) : World → Prop := fun u => u.cell? ⟨q, 1, none⟩ = some (.int .i64 x) ∧ u.cell? ⟨q, 2, none⟩ = some (.int .i64 y)
abbrev S3 (g o : Nat) (x : Int) (t : List UInt8) : World → Prop := fun u => u.cell? ⟨g, o, none⟩ = some (.int .i64 x) ∧ u.cell? ⟨g, o + 1, none⟩ = some (.string (str t))
theorem own_ne {w u : World} {b rb q : Nat} {m : Option Nat} {v : Value} {L1 L2 : List Li} (_h : Ws w u b m rb v L1 L2) (h1 : q ≠ b) (h2 : m ≠ some q) : ¬ (q = b ∨ m = some q) := fun e => e.elim h1 h2
/-- What a statement's own call lies in. -/
structure Ob (u : World) (q b : Nat) (m : Option Nat) (rb : Nat) (v : Value) (fr tq : Int) (own : Bool) : Prop where
  fr : u.cell? ⟨q, 1, none⟩ = some (.int .i64 fr)
  tq : u.cell? ⟨q, 2, none⟩ = some (.int .i64 tq)
  own : u.cell? ⟨q, 3, none⟩ = some (.bool own)
  nb : q ≠ b
  nm : m ≠ some q
  nr : q ≠ rb
  nv : blk v ≠ some q
theorem Ob.below {u x : World} {q b rb : Nat} {m : Option Nat} {v : Value} {fr tq : Int} {own : Bool} (h : Ob u q b m rb v fr tq own) (k : Below u.heap.size u x) : Ob x q b m rb v fr tq own :=
  ⟨(k.cell (p := ⟨q, 1, none⟩) (lt_of_cell h.fr)).trans h.fr, (k.cell (p := ⟨q, 2, none⟩) (lt_of_cell h.tq)).trans h.tq, (k.cell (p := ⟨q, 3, none⟩) (lt_of_cell h.own)).trans h.own, h.nb, h.nm, h.nr, h.nv⟩
theorem Ob.prog {u x : World} {q b rb : Nat} {m m' : Option Nat} {v : Value} {fr tq : Int} {own : Bool} (h : Ob u q b m rb v fr tq own) (k : CaTo u x b m m') : Ob x q b m' rb v fr tq own := by
  have hn : ¬ (q = b ∨ m = some q) := fun e => e.elim h.nb h.nm
  exact ⟨(k.mod.cell (p := ⟨q, 1, none⟩) (lt_of_cell h.fr) hn).trans h.fr, (k.mod.cell (p := ⟨q, 2, none⟩) (lt_of_cell h.tq) hn).trans h.tq, (k.mod.cell (p := ⟨q, 3, none⟩) (lt_of_cell h.own) hn).trans h.own, h.nb, fun e => k.ne (q := q) (fun g hg e2 => h.nm (e2 ▸ hg)) (lt_of_cell h.fr) q e rfl, h.nr, h.nv⟩
theorem Ob.doc {u x : World} {q b rb : Nat} {m : Option Nat} {v v' : Value} {fr tq : Int} {own : Bool} (h : Ob u q b m rb v fr tq own) (k : RcTo u x rb v v') : Ob x q b m rb v' fr tq own := by
  have hn : ¬ (q = rb ∨ blk v = some q) := fun e => e.elim h.nr h.nv
  exact ⟨(k.mod.cell (p := ⟨q, 1, none⟩) (lt_of_cell h.fr) hn).trans h.fr, (k.mod.cell (p := ⟨q, 2, none⟩) (lt_of_cell h.tq) hn).trans h.tq, (k.mod.cell (p := ⟨q, 3, none⟩) (lt_of_cell h.own) hn).trans h.own, h.nb, h.nm, h.nr, fun e => k.ne (q := q) (fun g hg e2 => h.nv (e2 ▸ hg)) (lt_of_cell h.fr) q e rfl⟩
/-- All that goes on from the switch. -/
def St (w u : World) (b rb q : Nat) (fr tq : Int) (own : Bool) (m : Option Nat) (v : Value) (L : List Li) (A : Option Addr) (n : Nat) (cs : List Ch) : Prop :=
  Ws w u b m rb v L L ∧ Ob u q b m rb v fr tq own ∧ IsG u 2 encC A n cs ∧ AsideB A n b m rb v ∧ ∀ s ∈ cs, (Lit.int .i64 s.1).wf = true
theorem s3_of {u : World} {g o n : Nat} {cs : List Ch} (h : IsG u 2 encC (some ⟨g, o, none⟩) n cs) (hn : 0 < n) {x : Ch} (hx : cs[0]? = some x) : S3 g o x.1 x.2 u := by
  obtain ⟨g', o', e, _, hc⟩ := h.cells hn
  injection e with e
  injection e with e1 e2
  subst e1 e2
  have e0 := hc 0 x 0 _ hx rfl
  have e1 := hc 0 x 1 _ hx rfl
  simp only [Nat.zero_mul, Nat.add_zero] at e0 e1
  exact ⟨e0, e1⟩
set_option maxRecDepth 100000 in
set_option maxHeartbeats 16000000 in
theorem walk (x : Option Addr) (len cap : Nat) (vs : Nat → OpV) (w : World) (h : IsOps w x len vs) (_hc : len ≤ cap) :
    Calls Try.prog 3 #[.slice x len cap] w fun e w' => e = .returned (.bool true) ∧ Below w.heap.size w w' := by
  have Hh := Lib.hid h
  have hlm : len ≤ 9223372036854775807 := by have := h.max; unfold maxLen at this; omega
  clear h _hc
  go_enter Try.func3, Try.ntmps3
  go_wp2_with fail
  refine (awk18_any _).mono ?_
  rintro e w1 ⟨rfl, b1⟩
  have B1 := Lib.hid b1
  clear b1
  go_wp2_with fail
  refine (New_any _).mono ?_
  rintro e w2 ⟨b, rfl, cn, ln, bn⟩
  have K2 : Hid (KC w w2 b none []) := Lib.hid ⟨cn, bnext B1.out bn, Nat.le_trans B1.out.size ln, (fun _ e => by cases e)⟩
  clear cn ln bn
  obtain ⟨U, HU⟩ : ∃ U, Hid (w2.alloc (.cells #[.slice none 0 0] 29) = U) := ⟨_, Lib.hid rfl⟩
  obtain ⟨rb, Hrb⟩ : ∃ p, Hid (w2.heap.size = p) := ⟨_, Lib.hid rfl⟩
  have W2 : Hid (Ws w U b none rb (.slice none 0 0) [] []) := Lib.hid (by
    rw [← HU.out, ← Hrb.out]
    have := K2.out.ca.lt
    have := K2.out.below.size
    exact ⟨K2.out.later (balloc (Below.refl _ _) _), ⟨by simp [go_sem], by simp [go_sem], RG.nil _ _ _, (fun g e => by cases e)⟩, by omega, (fun g e => by cases e), by omega, by simp, by simp [blk], (fun g e => by cases e)⟩)
  go_wp2_with fail
  rw [HU.out, Hrb.out]
  go_loopw [6] (fun iv wr => ∃ (i : Nat) (m : Option Nat) (v : Value) (L : List Li), iv = .int .i64 (i : Int) ∧ i ≤ len ∧ i ≤ 80 ∧ Hid (L.length ≤ 12 * i ∧ Ws w wr b m rb v L L)) (fun iv _ => len - (intOf iv).toNat)
  case atStart => exact ⟨0, none, _, [], rfl, Nat.zero_le _, by omega, Lib.hid ⟨by simp, W2.out⟩⟩
  case round =>
    obtain ⟨i, m, v, L, rfl, hi, hi2, HA⟩ := hrel
    by_cases hlt : i < len ∧ i < 80
    · obtain ⟨h1, h2⟩ := hlt
      have h1' : (i : Int) < (len : Int) := by omega
      have h2' : (i : Int) < 80 := by omega
      obtain ⟨g, o, rfl, hop⟩ := Hh.out.at HA.out.2.kc.below h1
      obtain ⟨⟨kind, fr, tq, own, A0, n0, c0, l0⟩, hvs⟩ : ∃ v, vs i = v := ⟨_, rfl⟩
      rw [hvs] at hop
      obtain ⟨d0, d1, d2, d3, d4, wk, his, hwf⟩ := hop
      simp only at d0 d1 d2 d3 d4 wk his hwf
      have His := Lib.hid his
      have Hwf := Lib.hid hwf
      obtain ⟨km, Hkm⟩ : ∃ m, Hid (kind.tmod 8 = m) := ⟨_, Lib.hid rfl⟩
      have hkb : -8 < km ∧ km < 8 := by rw [← Hkm.out]; exact tmod_bd kind (by decide)
      obtain ⟨hk1, hk2⟩ := hkb
      clear his hwf
      obtain ⟨w4, Hw4⟩ : ∃ w4, Hid (wr.alloc (.cells #[.int .i64 kind, .int .i64 fr, .int .i64 tq, .bool own, .slice A0 n0 c0] 32) = w4) := ⟨_, Lib.hid rfl⟩
      obtain ⟨q, Hq⟩ : ∃ q, Hid (wr.heap.size = q) := ⟨_, Lib.hid rfl⟩
      have S4 : Hid (Ws w w4 b m rb v L L ∧ Ob w4 q b m rb v fr tq own ∧ w4.cell? ⟨q, 0, none⟩ = some (.int .i64 kind) ∧ IsG w4 2 encC A0 n0 l0) := Lib.hid (by
        have hb := HA.out.2.kc.ca.lt
        have hr := HA.out.2.rc.lt
        refine ⟨by rw [← Hw4.out]; exact HA.out.2.later (balloc (Below.refl _ _) _), ⟨by rw [← Hw4.out, ← Hq.out]; simp [go_sem], by rw [← Hw4.out, ← Hq.out]; simp [go_sem], by rw [← Hw4.out, ← Hq.out]; simp [go_sem], by rw [← Hq.out]; omega, fun e => ?_, by rw [← Hq.out]; omega, fun e => ?_⟩, by rw [← Hw4.out, ← Hq.out]; simp [go_sem], by rw [← Hw4.out]; exact His.out.below (balloc (Below.refl _ _) _)⟩
        · have := (HA.out.2.kc.ca.ne e).2
          rw [← Hq.out] at this; omega
        · have := HA.out.2.rc.row.lt e
          rw [← Hq.out] at this; omega)
      go_wp2_with fail
      rw [Hw4.out]
      refine (small18_any A0 n0 c0 l0 w4 S4.out.2.2.2 Hwf.out).mono ?_
      rintro e w5 ⟨A, n, c, rfl, gr, gn, gb⟩
      rw [Hq.out]
      have k5 : w5.cell? ⟨q, 0, none⟩ = some (.int .i64 kind) := (gb.cell (p := ⟨q, 0, none⟩) (lt_of_cell S4.out.2.2.1)).trans S4.out.2.2.1
      have S5 : Hid (St w w5 b rb q fr tq own m v L A n (cutC l0)) := Lib.hid
        ⟨S4.out.1.later gb, S4.out.2.1.below gb, (gr.is encC_ok).1, S4.out.1.new (fun g off e _ => gn g (by rw [e]; rfl)) |> fun h => h, cutC_wf Hwf.out⟩
      have hn12 : n ≤ 12 := by
        obtain ⟨A', c', e⟩ := gr.shape
        injection e with _ e
        rw [e]; exact cutC_length l0
      obtain ⟨cs, Hcs⟩ : ∃ cs, Hid (cutC l0 = cs) := ⟨_, Lib.hid rfl⟩
      rw [Hcs.out] at S5
      clear gr gn gb d0 d1 d2 d3 d4
      go_upto_if 44 with (fail)
      rw [Hkm.out]
      clear k5
      have HS5 := S5
      go_cut [9] (fun kv wx => ∃ k : Nat, k < 8 ∧ kv = .int .i64 (k : Int) ∧ w5 = wx)
      case first =>
        by_cases hneg : km < 0
        · go_wp2
          go_meet
          exact ⟨(km + 8).toNat, by omega, by rw [Int.toNat_of_nonneg (by omega)], rfl⟩
        · go_wp2
          go_meet
          exact ⟨km.toNat, by omega, by rw [Int.toNat_of_nonneg (by omega)], rfl⟩
      case rest =>
        obtain ⟨k, hk, rfl, rfl⟩ := hcut
        go_upto_block 2 with (fail)
        go_cut [8, 10] (fun lv ov wx => ov = .bool true ∧ ∃ (m' : Option Nat) (v' : Value) (L' : List Li) (A' : Option Addr) (n' c' : Nat) (cs' : List Ch), lv = .slice A' n' c' ∧ n' ≤ 1000 ∧ Hid (L'.length ≤ 12 * (i + 1) ∧ St w wx b rb q fr tq own m' v' L' A' n' cs'))
        case first =>
          obtain rfl | rfl | hk4 | rfl | rfl | rfl : k = 0 ∨ k = 1 ∨ (2 ≤ k ∧ k ≤ 4) ∨ k = 5 ∨ k = 6 ∨ k = 7 := by omega
          · have hlk : ∃ t, Hid ((look L (cs.headD (0, [])).1).isNone = t) := ⟨_, Lib.hid rfl⟩
            by_cases hn0 : 0 < n
            · obtain ⟨x0, Hx⟩ : ∃ x, Hid (cs[0]? = some x) := ⟨cs[0]'(by have := S5.out.2.2.1.length; omega), Lib.hid (List.getElem?_eq_getElem _)⟩
              obtain ⟨g1, o1, rfl, hgl, hc⟩ := S5.out.2.2.1.cells hn0
              have e0 := hc 0 x0 0 _ Hx.out rfl
              have e1 := hc 0 x0 1 _ Hx.out rfl
              simp only [Nat.zero_mul, Nat.add_zero] at e0 e1
              have wf0 : (Lit.int .i64 x0.1).wf = true := S5.out.2.2.2.2 x0 (List.mem_of_getElem? Hx.out)
              obtain ⟨lk, Hlk⟩ : ∃ t, Hid ((look L x0.1).isNone = t) := ⟨_, Lib.hid rfl⟩
              clear hc hlk
              go_wp2_with fail
              have hT : S3 g1 o1 x0.1 x0.2 w5 := ⟨e0, e1⟩
              haveI : Nonempty (In (S3 g1 o1 x0.1 x0.2)) := ⟨⟨w5, hT⟩⟩
              refine wp_region_mix (by kernel_rfl) (Cls (S3 g1 o1 x0.1 x0.2)) ((0, 0) :: (1, 0) :: (2, 0) :: (3, 0) :: (4, 0) :: (5, 0) :: (6, 0) :: (7, 0) :: (8, 0) :: (10, 0) :: (11, 0) :: (12, 0) :: (13, 0) :: (14, 0) :: (15, 0) :: (16, 0) :: (17, 0) :: (18, 0) :: (9, 1) :: (19, 1) :: (20, 0) :: (21, 0) :: []) (by kernel_rfl) (cls ⟨e0, e1⟩) ?_
              have q0 : ∀ y : In (S3 g1 o1 x0.1 x0.2), y.u.cell? ⟨g1, o1, none⟩ = some (.int .i64 x0.1) := fun y => y.is.1
              have q1 : ∀ y : In (S3 g1 o1 x0.1 x0.2), y.u.cell? ⟨g1, o1 + 1, none⟩ = some (.string (str x0.2)) := fun y => y.is.2
              repeat (refine mix0 rfl (fun K hK => ?_); go_simp; refine hK _ ?_; clear hK K)
              refine mix1 rfl (fun K hK => ?_)
              go_simp
              have S5d : Hid (St w w5.drew b rb q fr tq own m v L (some ⟨g1, o1, none⟩) n cs) := Lib.hid ⟨S5.out.1.later (Below.refl _ _).drew, S5.out.2.1.below (Below.refl _ _).drew, S5.out.2.2.1.below (Below.refl _ _).drew, S5.out.2.2.2⟩
              refine (Load_any S5d.out.1.kc.ca x0.1 wf0 x0.2 (by have := HA.out.1; unfold maxLen; omega)).mono ?_
              rw [Hlk.out]
              rintro e w6 ⟨rfl, m6, c6, t6⟩
              have S6 : Hid (Ws w w6 b m6 rb v (loadL L x0.1 x0.2) L ∧ Ob w6 q b m6 rb v fr tq own ∧ IsG w6 2 encC (some ⟨g1, o1, none⟩) n cs ∧ AsideB (some ⟨g1, o1, none⟩) n b m6 rb v) := Lib.hid (by
                have h3 := S5d.out.2.2.2.1.prog t6 S5d.out.2.2.1
                exact ⟨S5d.out.1.prog c6 t6, S5d.out.2.1.prog t6, h3.2, h3.1⟩)
              have hT6 : S3 g1 o1 x0.1 x0.2 w6 := s3_of S6.out.2.2.1 hn0 Hx.out
              refine ⟨_, rfl, hK _ _ (cls hT6) ?_⟩
              clear hK K c6 t6
              refine mix1 rfl (fun K hK => ?_)
              go_simp
              refine (XLoad_any S6.out.1.rc HA.out.2.kc.ca.rise x0.1 x0.2 (by have := HA.out.1; omega)).mono ?_
              rw [Hlk.out]
              rintro e w7 ⟨rfl, v7, c7, t7⟩
              have S7 : Hid (St w w7 b rb q fr tq own m6 v7 (loadL L x0.1 x0.2) (some ⟨g1, o1, none⟩) n cs) := Lib.hid (by
                have h3 := S6.out.2.2.2.doc t7 S6.out.2.2.1
                exact ⟨S6.out.1.doc c7 t7, S6.out.2.1.doc t7, h3.2, h3.1, S5.out.2.2.2.2⟩)
              have hT7 : S3 g1 o1 x0.1 x0.2 w7 := s3_of S7.out.2.2.1 hn0 Hx.out
              refine ⟨_, rfl, hK _ _ (cls hT7) ?_⟩
              clear hK K c7 t7
              repeat (refine mix0 rfl (fun K hK => ?_); go_simp; refine hK _ ?_; clear hK K)
              refine mixEnd ?_
              clear q0 q1 hT6 hT7 this hT
              go_wp2
              go_meet
              exact ⟨by first | rfl | trivial | simp, m6, v7, _, _, _, _, cs, rfl, by omega, Lib.hid ⟨Nat.le_trans (loadL_length _ _ _) (by have := HA.out.1; omega), S7.out⟩⟩
            · go_wp2
              go_meet
              exact ⟨rfl, m, v, L, _, _, _, cs, rfl, by omega, Lib.hid ⟨by have := HA.out.1; omega, S5.out⟩⟩
          · have hlk : ∃ t, Hid ((look L (cs.headD (0, [])).1).isNone = t) := ⟨_, Lib.hid rfl⟩
            by_cases hn0 : 0 < n
            · obtain ⟨x0, Hx⟩ : ∃ x, Hid (cs[0]? = some x) := ⟨cs[0]'(by have := S5.out.2.2.1.length; omega), Lib.hid (List.getElem?_eq_getElem _)⟩
              obtain ⟨g1, o1, rfl, hgl, hc⟩ := S5.out.2.2.1.cells hn0
              have e0 := hc 0 x0 0 _ Hx.out rfl
              have e1 := hc 0 x0 1 _ Hx.out rfl
              simp only [Nat.zero_mul, Nat.add_zero] at e0 e1
              have wf0 : (Lit.int .i64 x0.1).wf = true := S5.out.2.2.2.2 x0 (List.mem_of_getElem? Hx.out)
              obtain ⟨lk, Hlk⟩ : ∃ t, Hid ((look L x0.1).isNone = t) := ⟨_, Lib.hid rfl⟩
              clear hc hlk
              go_wp2_with fail
              have hT : S3 g1 o1 x0.1 x0.2 w5 := ⟨e0, e1⟩
              haveI : Nonempty (In (S3 g1 o1 x0.1 x0.2)) := ⟨⟨w5, hT⟩⟩
              refine wp_region_mix (by kernel_rfl) (Cls (S3 g1 o1 x0.1 x0.2)) ((0, 0) :: (1, 0) :: (2, 0) :: (3, 0) :: (4, 0) :: (5, 0) :: (6, 0) :: (7, 0) :: (8, 0) :: (10, 0) :: (11, 0) :: (12, 0) :: (13, 0) :: (14, 0) :: (15, 0) :: (16, 0) :: (17, 0) :: (18, 0) :: (9, 1) :: (19, 1) :: (20, 0) :: (21, 0) :: []) (by kernel_rfl) (cls ⟨e0, e1⟩) ?_
              have q0 : ∀ y : In (S3 g1 o1 x0.1 x0.2), y.u.cell? ⟨g1, o1, none⟩ = some (.int .i64 x0.1) := fun y => y.is.1
              have q1 : ∀ y : In (S3 g1 o1 x0.1 x0.2), y.u.cell? ⟨g1, o1 + 1, none⟩ = some (.string (str x0.2)) := fun y => y.is.2
              repeat (refine mix0 rfl (fun K hK => ?_); go_simp; refine hK _ ?_; clear hK K)
              refine mix1 rfl (fun K hK => ?_)
              go_simp
              have S5d : Hid (St w w5.drew b rb q fr tq own m v L (some ⟨g1, o1, none⟩) n cs) := Lib.hid ⟨S5.out.1.later (Below.refl _ _).drew, S5.out.2.1.below (Below.refl _ _).drew, S5.out.2.2.1.below (Below.refl _ _).drew, S5.out.2.2.2⟩
              refine (Load_any S5d.out.1.kc.ca x0.1 wf0 x0.2 (by have := HA.out.1; unfold maxLen; omega)).mono ?_
              rw [Hlk.out]
              rintro e w6 ⟨rfl, m6, c6, t6⟩
              have S6 : Hid (Ws w w6 b m6 rb v (loadL L x0.1 x0.2) L ∧ Ob w6 q b m6 rb v fr tq own ∧ IsG w6 2 encC (some ⟨g1, o1, none⟩) n cs ∧ AsideB (some ⟨g1, o1, none⟩) n b m6 rb v) := Lib.hid (by
                have h3 := S5d.out.2.2.2.1.prog t6 S5d.out.2.2.1
                exact ⟨S5d.out.1.prog c6 t6, S5d.out.2.1.prog t6, h3.2, h3.1⟩)
              have hT6 : S3 g1 o1 x0.1 x0.2 w6 := s3_of S6.out.2.2.1 hn0 Hx.out
              refine ⟨_, rfl, hK _ _ (cls hT6) ?_⟩
              clear hK K c6 t6
              refine mix1 rfl (fun K hK => ?_)
              go_simp
              refine (XLoad_any S6.out.1.rc HA.out.2.kc.ca.rise x0.1 x0.2 (by have := HA.out.1; omega)).mono ?_
              rw [Hlk.out]
              rintro e w7 ⟨rfl, v7, c7, t7⟩
              have S7 : Hid (St w w7 b rb q fr tq own m6 v7 (loadL L x0.1 x0.2) (some ⟨g1, o1, none⟩) n cs) := Lib.hid (by
                have h3 := S6.out.2.2.2.doc t7 S6.out.2.2.1
                exact ⟨S6.out.1.doc c7 t7, S6.out.2.1.doc t7, h3.2, h3.1, S5.out.2.2.2.2⟩)
              have hT7 : S3 g1 o1 x0.1 x0.2 w7 := s3_of S7.out.2.2.1 hn0 Hx.out
              refine ⟨_, rfl, hK _ _ (cls hT7) ?_⟩
              clear hK K c7 t7
              repeat (refine mix0 rfl (fun K hK => ?_); go_simp; refine hK _ ?_; clear hK K)
              refine mixEnd ?_
              clear q0 q1 hT6 hT7 this hT
              go_wp2
              go_meet
              exact ⟨by first | rfl | trivial | simp, m6, v7, _, _, _, _, cs, rfl, by omega, Lib.hid ⟨Nat.le_trans (loadL_length _ _ _) (by have := HA.out.1; omega), S7.out⟩⟩
            · go_wp2
              go_meet
              exact ⟨rfl, m, v, L, _, _, _, cs, rfl, by omega, Lib.hid ⟨by have := HA.out.1; omega, S5.out⟩⟩
          · have q0 : ((k : Int) == 0) = false := beq_no (by omega)
            have q1 : ((k : Int) == 1) = false := beq_no (by omega)
            have q5 : ((k : Int) == 5) = false := beq_no (by omega)
            have q6 : ((k : Int) == 6) = false := beq_no (by omega)
            have q7 : ((k : Int) == 7) = false := beq_no (by omega)
            go_wp2_with fail
            refine (Put_any S5.out.1.kc.ca A n c cs S5.out.2.2.1 S5.out.2.2.2.1.1 S5.out.2.2.2.2 (by have := HA.out.1; unfold maxLen; omega)).mono ?_
            rintro e w6 ⟨rfl, m6, c6, t6⟩
            have S6 : Hid (Ws w w6 b m6 rb v (putL L cs) L ∧ Ob w6 q b m6 rb v fr tq own ∧ IsG w6 2 encC A n cs ∧ AsideB A n b m6 rb v) := Lib.hid (by
              have h3 := S5.out.2.2.2.1.prog t6 S5.out.2.2.1
              exact ⟨S5.out.1.prog c6 t6, S5.out.2.1.prog t6, h3.2, h3.1⟩)
            clear c6 t6
            go_wp2_with fail
            refine (XPut_any S6.out.1.rc HA.out.2.kc.ca.rise A n c cs S6.out.2.2.1 S6.out.2.2.2.2 (by have := HA.out.1; omega)).mono ?_
            rintro e w7 ⟨rfl, v7, c7, t7⟩
            have S7 : Hid (St w w7 b rb q fr tq own m6 v7 (putL L cs) A n cs) := Lib.hid (by
              have h3 := S6.out.2.2.2.doc t7 S6.out.2.2.1
              exact ⟨S6.out.1.doc c7 t7, S6.out.2.1.doc t7, h3.2, h3.1, S5.out.2.2.2.2⟩)
            clear c7 t7
            go_wp2
            go_meet
            exact ⟨rfl, m6, v7, _, _, _, _, cs, rfl, by omega, Lib.hid ⟨Nat.le_trans (putL_length _ _) (by have := HA.out.1; have := S5.out.2.2.1.length; omega), S7.out⟩⟩
          · have e3 := S5.out.2.1.own
            have e1 := S5.out.2.1.fr
            have e2 := S5.out.2.1.tq
            cases own
            · go_wp2_with fail
              refine (Clean_any S5.out.1.kc.ca A n c cs S5.out.2.2.1 S5.out.2.2.2.1.1 S5.out.2.2.2.2 (by have := HA.out.1; unfold maxLen; omega)).mono ?_
              obtain ⟨cN, HcN⟩ : ∃ t, Hid (cleanN L cs = t) := ⟨_, Lib.hid rfl⟩
              rw [HcN.out]
              rintro e w6 ⟨rfl, m6, c6, t6⟩
              have S6 : Hid (Ws w w6 b m6 rb v (cleanL L cs) L ∧ Ob w6 q b m6 rb v fr tq false ∧ IsG w6 2 encC A n cs ∧ AsideB A n b m6 rb v) := Lib.hid (by
                have h3 := S5.out.2.2.2.1.prog t6 S5.out.2.2.1
                exact ⟨S5.out.1.prog c6 t6, S5.out.2.1.prog t6, h3.2, h3.1⟩)
              clear c6 t6
              go_wp2_with fail
              refine (XClean_any S6.out.1.rc HA.out.2.kc.ca.rise A n c cs S6.out.2.2.1 S6.out.2.2.2.2).mono ?_
              rw [HcN.out]
              rintro e w7 ⟨rfl, v7, c7, t7⟩
              have S7 : Hid (St w w7 b rb q fr tq false m6 v7 (cleanL L cs) A n cs) := Lib.hid (by
                have h3 := S6.out.2.2.2.doc t7 S6.out.2.2.1
                exact ⟨S6.out.1.doc c7 t7, S6.out.2.1.doc t7, h3.2, h3.1, S5.out.2.2.2.2⟩)
              clear c7 t7
              go_wp2
              go_meet
              exact ⟨by first | rfl | trivial | simp, m6, v7, _, _, _, _, cs, rfl, by omega, Lib.hid ⟨by rw [cleanL_length HA.out.2.kc.ca.rise]; have := HA.out.1; omega, S7.out⟩⟩
            · go_wp2_with fail
              refine (XDirty_any S5.out.1.rc fr tq (by have := HA.out.1; omega)).mono ?_
              obtain ⟨D, HD⟩ : ∃ D, Hid (dirtyL L fr tq = D) := ⟨_, Lib.hid rfl⟩
              rw [HD.out]
              rintro e wD ⟨AD, nD, cD, rfl, gD, lD, bD⟩
              have hnD : nD ≤ 960 := by
                obtain ⟨A', c', e⟩ := gD.shape
                injection e with _ e
                rw [e, ← HD.out, dirtyL, List.length_map]
                refine Nat.le_trans (List.length_filter_le _ _) ?_
                have := HA.out.1; omega
              have SD : Hid (St w wD b rb q fr tq true m v L AD nD D) := Lib.hid ⟨S5.out.1.later bD, S5.out.2.1.below bD, (gD.is encC_ok).1, S5.out.1.new (fun g off e _ => lD g (by rw [e]; rfl)), fun y hy => by
                rw [← HD.out] at hy
                obtain ⟨z, hz, rfl⟩ := List.mem_map.1 hy
                exact HA.out.2.kc.ca.wf z (List.mem_filter.1 hz).1⟩
              clear gD lD bD e3
              go_wp2_with fail
              refine (Clean_any SD.out.1.kc.ca AD nD cD D SD.out.2.2.1 SD.out.2.2.2.1.1 SD.out.2.2.2.2 (by have := HA.out.1; unfold maxLen; omega)).mono ?_
              obtain ⟨cN, HcN⟩ : ∃ t, Hid (cleanN L D = t) := ⟨_, Lib.hid rfl⟩
              rw [HcN.out]
              rintro e w6 ⟨rfl, m6, c6, t6⟩
              have S6 : Hid (Ws w w6 b m6 rb v (cleanL L D) L ∧ Ob w6 q b m6 rb v fr tq true ∧ IsG w6 2 encC AD nD D ∧ AsideB AD nD b m6 rb v) := Lib.hid (by
                have h3 := SD.out.2.2.2.1.prog t6 SD.out.2.2.1
                exact ⟨SD.out.1.prog c6 t6, SD.out.2.1.prog t6, h3.2, h3.1⟩)
              clear c6 t6
              go_wp2_with fail
              refine (XClean_any S6.out.1.rc HA.out.2.kc.ca.rise AD nD cD D S6.out.2.2.1 S6.out.2.2.2.2).mono ?_
              rw [HcN.out]
              rintro e w7 ⟨rfl, v7, c7, t7⟩
              have S7 : Hid (St w w7 b rb q fr tq true m6 v7 (cleanL L D) AD nD D) := Lib.hid (by
                have h3 := S6.out.2.2.2.doc t7 S6.out.2.2.1
                exact ⟨S6.out.1.doc c7 t7, S6.out.2.1.doc t7, h3.2, h3.1, SD.out.2.2.2.2⟩)
              clear c7 t7
              go_wp2
              go_meet
              exact ⟨by first | rfl | trivial | simp, m6, v7, _, _, _, _, D, rfl, by omega, Lib.hid ⟨by rw [cleanL_length HA.out.2.kc.ca.rise]; have := HA.out.1; omega, S7.out⟩⟩
          · have e3 := S5.out.2.1.own
            have e1 := S5.out.2.1.fr
            have e2 := S5.out.2.1.tq
            cases own
            · go_wp2_with fail
              refine (Clean_any S5.out.1.kc.ca A n c cs S5.out.2.2.1 S5.out.2.2.2.1.1 S5.out.2.2.2.2 (by have := HA.out.1; unfold maxLen; omega)).mono ?_
              obtain ⟨cN, HcN⟩ : ∃ t, Hid (cleanN L cs = t) := ⟨_, Lib.hid rfl⟩
              rw [HcN.out]
              rintro e w6 ⟨rfl, m6, c6, t6⟩
              have S6 : Hid (Ws w w6 b m6 rb v (cleanL L cs) L ∧ Ob w6 q b m6 rb v fr tq false ∧ IsG w6 2 encC A n cs ∧ AsideB A n b m6 rb v) := Lib.hid (by
                have h3 := S5.out.2.2.2.1.prog t6 S5.out.2.2.1
                exact ⟨S5.out.1.prog c6 t6, S5.out.2.1.prog t6, h3.2, h3.1⟩)
              clear c6 t6
              go_wp2_with fail
              refine (XClean_any S6.out.1.rc HA.out.2.kc.ca.rise A n c cs S6.out.2.2.1 S6.out.2.2.2.2).mono ?_
              rw [HcN.out]
              rintro e w7 ⟨rfl, v7, c7, t7⟩
              have S7 : Hid (St w w7 b rb q fr tq false m6 v7 (cleanL L cs) A n cs) := Lib.hid (by
                have h3 := S6.out.2.2.2.doc t7 S6.out.2.2.1
                exact ⟨S6.out.1.doc c7 t7, S6.out.2.1.doc t7, h3.2, h3.1, S5.out.2.2.2.2⟩)
              clear c7 t7
              go_wp2
              go_meet
              exact ⟨by first | rfl | trivial | simp, m6, v7, _, _, _, _, cs, rfl, by omega, Lib.hid ⟨by rw [cleanL_length HA.out.2.kc.ca.rise]; have := HA.out.1; omega, S7.out⟩⟩
            · go_wp2_with fail
              refine (XDirty_any S5.out.1.rc fr tq (by have := HA.out.1; omega)).mono ?_
              obtain ⟨D, HD⟩ : ∃ D, Hid (dirtyL L fr tq = D) := ⟨_, Lib.hid rfl⟩
              rw [HD.out]
              rintro e wD ⟨AD, nD, cD, rfl, gD, lD, bD⟩
              have hnD : nD ≤ 960 := by
                obtain ⟨A', c', e⟩ := gD.shape
                injection e with _ e
                rw [e, ← HD.out, dirtyL, List.length_map]
                refine Nat.le_trans (List.length_filter_le _ _) ?_
                have := HA.out.1; omega
              have SD : Hid (St w wD b rb q fr tq true m v L AD nD D) := Lib.hid ⟨S5.out.1.later bD, S5.out.2.1.below bD, (gD.is encC_ok).1, S5.out.1.new (fun g off e _ => lD g (by rw [e]; rfl)), fun y hy => by
                rw [← HD.out] at hy
                obtain ⟨z, hz, rfl⟩ := List.mem_map.1 hy
                exact HA.out.2.kc.ca.wf z (List.mem_filter.1 hz).1⟩
              clear gD lD bD e3
              go_wp2_with fail
              refine (Clean_any SD.out.1.kc.ca AD nD cD D SD.out.2.2.1 SD.out.2.2.2.1.1 SD.out.2.2.2.2 (by have := HA.out.1; unfold maxLen; omega)).mono ?_
              obtain ⟨cN, HcN⟩ : ∃ t, Hid (cleanN L D = t) := ⟨_, Lib.hid rfl⟩
              rw [HcN.out]
              rintro e w6 ⟨rfl, m6, c6, t6⟩
              have S6 : Hid (Ws w w6 b m6 rb v (cleanL L D) L ∧ Ob w6 q b m6 rb v fr tq true ∧ IsG w6 2 encC AD nD D ∧ AsideB AD nD b m6 rb v) := Lib.hid (by
                have h3 := SD.out.2.2.2.1.prog t6 SD.out.2.2.1
                exact ⟨SD.out.1.prog c6 t6, SD.out.2.1.prog t6, h3.2, h3.1⟩)
              clear c6 t6
              go_wp2_with fail
              refine (XClean_any S6.out.1.rc HA.out.2.kc.ca.rise AD nD cD D S6.out.2.2.1 S6.out.2.2.2.2).mono ?_
              rw [HcN.out]
              rintro e w7 ⟨rfl, v7, c7, t7⟩
              have S7 : Hid (St w w7 b rb q fr tq true m6 v7 (cleanL L D) AD nD D) := Lib.hid (by
                have h3 := S6.out.2.2.2.doc t7 S6.out.2.2.1
                exact ⟨S6.out.1.doc c7 t7, S6.out.2.1.doc t7, h3.2, h3.1, SD.out.2.2.2.2⟩)
              clear c7 t7
              go_wp2
              go_meet
              exact ⟨by first | rfl | trivial | simp, m6, v7, _, _, _, _, D, rfl, by omega, Lib.hid ⟨by rw [cleanL_length HA.out.2.kc.ca.rise]; have := HA.out.1; omega, S7.out⟩⟩
          · have e1 := S5.out.2.1.fr
            have e2 := S5.out.2.1.tq
            go_wp2_with fail
            haveI : Nonempty (In (Sq q fr tq)) := ⟨⟨w5, e1, e2⟩⟩
            refine wp_region_mix (by kernel_rfl) (Cls (Sq q fr tq)) [(0, 0), (1, 0), (2, 0), (3, 0), (4, 0), (6, 0), (7, 0), (8, 0), (9, 0), (10, 0), (5, 1), (11, 1), (12, 0), (13, 0)] (by kernel_rfl) (cls ⟨e1, e2⟩) ?_
            have q0 : ∀ y : In (Sq q fr tq), y.u.cell? ⟨q, 1, none⟩ = some (.int .i64 fr) := fun y => y.is.1
            have q1 : ∀ y : In (Sq q fr tq), y.u.cell? ⟨q, 2, none⟩ = some (.int .i64 tq) := fun y => y.is.2
            repeat (refine mix0 rfl (fun K hK => ?_); go_simp; refine hK _ ?_; clear hK K)
            refine mix1 rfl (fun K hK => ?_)
            go_simp
            have S5d : Hid (St w w5.drew b rb q fr tq own m v L A n cs) := Lib.hid ⟨S5.out.1.later (Below.refl _ _).drew, S5.out.2.1.below (Below.refl _ _).drew, S5.out.2.2.1.below (Below.refl _ _).drew, S5.out.2.2.2⟩
            refine (Drop_any S5d.out.1.kc.ca fr tq (by have := HA.out.1; omega)).mono ?_
            obtain ⟨dN, HdN⟩ : ∃ t, Hid ((dirtyL L fr tq).length = t) := ⟨_, Lib.hid rfl⟩
            rw [HdN.out]
            rintro e w6 ⟨rfl, c6, t6⟩
            have S6 : Hid (Ws w w6 b m rb v (dropL L fr tq) L ∧ Ob w6 q b m rb v fr tq own ∧ IsG w6 2 encC A n cs ∧ AsideB A n b m rb v) := Lib.hid (by
              have h3 := S5d.out.2.2.2.1.prog t6 S5d.out.2.2.1
              exact ⟨S5d.out.1.prog c6 t6, S5d.out.2.1.prog t6, h3.2, h3.1⟩)
            refine ⟨_, rfl, hK _ _ (cls ⟨S6.out.2.1.fr, S6.out.2.1.tq⟩) ?_⟩
            clear hK K c6 t6
            refine mix1 rfl (fun K hK => ?_)
            go_simp
            refine (XDrop_any S6.out.1.rc fr tq (by have := HA.out.1; omega)).mono ?_
            rw [HdN.out]
            rintro e w7 ⟨rfl, v7, c7, t7⟩
            have S7 : Hid (St w w7 b rb q fr tq own m v7 (dropL L fr tq) A n cs) := Lib.hid (by
              have h3 := S6.out.2.2.2.doc t7 S6.out.2.2.1
              exact ⟨S6.out.1.doc c7 t7, S6.out.2.1.doc t7, h3.2, h3.1, S5.out.2.2.2.2⟩)
            refine ⟨_, rfl, hK _ _ (cls ⟨S7.out.2.1.fr, S7.out.2.1.tq⟩) ?_⟩
            clear hK K c7 t7
            repeat (refine mix0 rfl (fun K hK => ?_); go_simp; refine hK _ ?_; clear hK K)
            refine mixEnd ?_
            clear q0 q1 this
            go_wp2
            go_meet
            exact ⟨by first | rfl | trivial | simp, m, v7, _, _, _, _, cs, rfl, by omega, Lib.hid ⟨Nat.le_trans (dropL_length _ _ _) (by have := HA.out.1; omega), S7.out⟩⟩
        case rest =>
          obtain ⟨rfl, m', v', L', A', n', c', cs', rfl, hn', HL⟩ := hcut
          obtain ⟨wz, rfl⟩ : ∃ x, x = wc := ⟨_, rfl⟩
          have e1 := HL.out.2.2.1.fr
          have e2 := HL.out.2.2.1.tq
          have hLl : L'.length ≤ 960 := by have := HL.out.1; omega
          go_wp2_with fail
          haveI : Nonempty (In (Sq q fr tq)) := ⟨⟨wz, e1, e2⟩⟩
          refine wp_region_mix (by kernel_rfl) (Cls (Sq q fr tq)) [(0, 0), (1, 0), (2, 0), (3, 0), (4, 0), (6, 0), (7, 0), (8, 0), (9, 0), (10, 0), (5, 1), (11, 1), (12, 1), (13, 0)] (by kernel_rfl) (cls ⟨e1, e2⟩) ?_
          have q0 : ∀ y : In (Sq q fr tq), y.u.cell? ⟨q, 1, none⟩ = some (.int .i64 fr) := fun y => y.is.1
          have q1 : ∀ y : In (Sq q fr tq), y.u.cell? ⟨q, 2, none⟩ = some (.int .i64 tq) := fun y => y.is.2
          repeat (refine mix0 rfl (fun K hK => ?_); go_simp; refine hK _ ?_; clear hK K)
          have SS : Hid (∀ u, Below wz.heap.size wz u → St w u b rb q fr tq own m' v' L' A' n' cs') := Lib.hid (fun u hu => ⟨HL.out.2.1.later hu, HL.out.2.2.1.below hu, HL.out.2.2.2.1.below hu, HL.out.2.2.2.2⟩)
          refine mix1 rfl (fun K hK => ?_)
          go_simp
          refine (Dirty_any (SS.out _ (Below.refl _ _).drew).1.kc.ca fr tq (by omega)).mono ?_
          obtain ⟨D, HD⟩ : ∃ D, Hid (dirtyL L' fr tq = D) := ⟨_, Lib.hid rfl⟩
          rw [HD.out]
          rintro e w6 ⟨A6, n6, c6, rfl, g6, _, b6⟩
          have B6 : Hid (Below wz.heap.size wz w6) := Lib.hid ((Below.refl _ _).drew.trans b6)
          have G6 : Hid (IsG w6 2 encC A6 n6 D) := Lib.hid (g6.is encC_ok).1
          have hT6 := (SS.out _ B6.out).2.1
          refine ⟨_, rfl, hK _ _ (cls ⟨hT6.fr, hT6.tq⟩) ?_⟩
          clear hK K g6 b6 hT6
          refine mix1 rfl (fun K hK => ?_)
          go_simp
          refine (XDirty_any (SS.out _ B6.out).1.rc fr tq (by omega)).mono ?_
          rw [HD.out]
          rintro e w7 ⟨A7, n7, c7, rfl, g7, _, b7⟩
          have B7 : Hid (Below wz.heap.size wz w7) := Lib.hid (bnext B6.out b7)
          have G7 : Hid (IsG w7 2 encC A7 n7 D ∧ IsG w7 2 encC A6 n6 D) := Lib.hid ⟨(g7.is encC_ok).1, G6.out.below b7⟩
          have hT7 := (SS.out _ B7.out).2.1
          refine ⟨_, rfl, hK _ _ (cls ⟨hT7.fr, hT7.tq⟩) ?_⟩
          clear hK K g7 b7 hT7
          refine mix1 rfl (fun K hK => ?_)
          go_simp
          refine (xSame_any A6 A7 n6 c6 n7 c7 D w7 G7.out.2 G7.out.1).mono ?_
          rintro e w8 ⟨rfl, b8⟩
          have B8 : Hid (Below wz.heap.size wz w8) := Lib.hid (bnext B7.out b8)
          have hT8 := (SS.out _ B8.out).2.1
          refine ⟨_, rfl, hK _ _ (cls ⟨hT8.fr, hT8.tq⟩) ?_⟩
          clear hK K b8 hT8
          repeat (refine mix0 rfl (fun K hK => ?_); go_simp; refine hK _ ?_; clear hK K)
          refine mixEnd ?_
          clear q0 q1 this e1 e2
          have S8 := Lib.hid (SS.out _ B8.out)
          obtain ⟨A9, c9, e9⟩ := S8.out.1.rc.row.shape
          have hrc := S8.out.1.rc.cell
          rw [e9] at hrc
          have hrl := S8.out.1.rc.lt
          go_wp2_with fail
          refine wp_region_mix (by kernel_rfl) (Cls (Abv w8)) [(0, 0), (1, 0), (2, 0), (3, 0), (4, 0), (5, 0), (6, 0), (7, 0), (9, 0), (10, 0), (11, 0), (12, 0), (13, 0), (8, 1), (14, 0), (15, 0)] (by kernel_rfl) (cls (Below.refl _ _).drew) ?_
          have q0 : ∀ y : In (Abv w8), y.u.cell? ⟨rb, 0, none⟩ = some (.slice A9 L'.length c9) := fun y => (y.is.cell (p := ⟨rb, 0, none⟩) hrl).trans hrc
          repeat (refine mix0 rfl (fun K hK => ?_); go_simp; refine hK _ ?_; clear hK K)
          refine mix1 rfl (fun K hK => ?_)
          go_simp
          refine (CLen_any (S8.out.1.later (Below.refl _ _).drew).kc.ca).mono ?_
          rintro e w9 ⟨rfl, rfl⟩
          refine ⟨_, rfl, hK _ _ (cls (Below.refl _ _).drew) ?_⟩
          clear hK K
          repeat (refine mix0 rfl (fun K hK => ?_); go_simp; refine hK _ ?_; clear hK K)
          refine mixEnd ?_
          clear q0 hrc hrl
          obtain ⟨wy, Hwy⟩ : ∃ u, Hid (w8.drew = u) := ⟨_, Lib.hid rfl⟩
          have SY : Hid (St w wy b rb q fr tq own m' v' L' A' n' cs') := Lib.hid (by rw [← Hwy.out]; exact ⟨S8.out.1.later (Below.refl _ _).drew, S8.out.2.1.below (Below.refl _ _).drew, S8.out.2.2.1.below (Below.refl _ _).drew, S8.out.2.2.2⟩)
          rw [Hwy.out]
          have hnl : Hid (cs'.length = n') := Lib.hid SY.out.2.2.1.length
          go_wp2_with fail
          go_loopw [12] (fun jv wr => ∃ j : Nat, jv = .int .i64 (j : Int) ∧ j ≤ n' ∧ Hid (Below wy.heap.size wy wr)) (fun jv _ => n' - (intOf jv).toNat)
          case atStart => exact ⟨0, rfl, Nat.zero_le _, Lib.hid (Below.refl _ _)⟩
          case round =>
            obtain ⟨j, rfl, hj, HB⟩ := hrel
            by_cases hjl : j < n'
            · obtain ⟨x, Hx⟩ : ∃ x, Hid (cs'[j]? = some x) := ⟨cs'[j]'(by have := hnl.out; omega), Lib.hid (List.getElem?_eq_getElem _)⟩
              obtain ⟨g1, o1, rfl, hgl, hc⟩ := (SY.out.2.2.1.below HB.out).cells (by omega)
              have f0 := hc j x 0 _ Hx.out rfl
              rw [Nat.add_zero] at f0
              have wfx := SY.out.2.2.2.2 x (List.mem_of_getElem? Hx.out)
              have hj9 : j ≤ 1000 := by omega
              obtain ⟨tx, Htx⟩ : ∃ t, Hid ((kvOf L' x.1).1 = t) := ⟨_, Lib.hid rfl⟩
              obtain ⟨ti, Hti⟩ : ∃ t, Hid ((look L' x.1).isSome = t) := ⟨_, Lib.hid rfl⟩
              have Hgl := Lib.hid hgl
              clear hc
              go_wp2_with fail
              refine (Get_any (SY.out.1.later HB.out).kc.ca x.1 wfx).mono ?_
              rw [Htx.out, Hti.out]
              rintro e wG ⟨rfl, bG⟩
              have HBG : Hid (Below wy.heap.size wy wG) := Lib.hid (bnext HB.out bG)
              have f0' : wG.cell? ⟨g1, o1 + j * 2, none⟩ = some (.int .i64 x.1) := (bG.cell (p := ⟨g1, o1 + j * 2, none⟩) Hgl.out).trans f0
              clear bG f0
              go_wp2_with fail
              refine (XGet_any (SY.out.1.later HBG.out).rc x.1).mono ?_
              rw [Htx.out, Hti.out]
              rintro e wH ⟨rfl, rfl⟩
              go_wp2_with fail
              go_roundw
              case rel => exact ⟨j + 1, by go_num, by omega, HBG⟩
              case measure => simp [intOf]; omega
            · obtain rfl : j = n' := by omega
              have SZ := Lib.hid (SY.out.1.later HB.out)
              go_wp2_with fail
              go_roundw
              case rel => exact ⟨i + 1, m', v', L', by go_num, by omega, by omega, Lib.hid ⟨HL.out.1, SZ.out⟩⟩
              case measure => simp [intOf]; omega
    · by_cases h1 : i < len
      · have h1' : (i : Int) < (len : Int) := by omega
        have h2' : ¬ (i : Int) < 80 := by omega
        go_wp2
        go_ret
        exact ⟨rfl, HA.out.2.kc.below⟩
      · have h1' : ¬ (i : Int) < (len : Int) := by omega
        go_wp2
        go_ret
        exact ⟨rfl, HA.out.2.kc.below⟩

theorem own : ownKnob Try.prog.godebug = none := by kernel_rfl
theorem laidOut : laidOutB Try.prog = true := by kernel_rfl
set_option maxRecDepth 100000 in
theorem lifted (os : Os) (started : os.Started) (H : Type) (enc : TypeId × Value → H) :
    ReturnsInHanded {} Try.checked os 3 .any (Rows.cachePlaysSpec.pre6 enc Try.prog Try.f3 Rows.cachePlaysRow.domain false) (Rows.cachePlaysSpec.post enc Try.prog Try.f3 false true false false) := by
  refine returnsInHanded_of_change (C := Try.checked) own started (by kernel_rfl) Try.func3
    (ChangeSpec.witness6 (enc := enc) (C := Try.checked) false ⟨#[], #[.slice none 0 0], []⟩ 8 (by kernel_rfl) (by kernel_rfl) (by kernel_rfl) (by kernel_rfl)) ?_
  intro W base args ds gs before hval0 hW hcnd _
  have hval : ∀ (j : Nat) t v, Try.f3.params[j]? = some t → args[j]? = some v → Value.okWide Try.prog W .any base t v := hval0
  have hW' := hW
  obtain ⟨p, q, hA0, hV, rfl, hfz, hnd⟩ := hW
  have hA : DataW.TrodAll enc Try.prog W 0 (fun _ => true) true Try.f3.params.toList args.toList ds p := hA0
  rw [Try.params3] at hA hval
  obtain ⟨v0, vs0, d0, ds0, p0, q0, hargs, rfl, rfl, h0, r0⟩ := trodAll_cons hA
  obtain ⟨rfl, rfl, rfl⟩ := trodAll_nil r0
  obtain rfl : args = #[v0] := by cases args; simp_all
  obtain ⟨x0, len0, cap0, a0, rfl, w0, y0⟩ := opens_ops18 (hval 0 22 v0 rfl rfl) h0
  clear hA0 hval0
  refine (walk x0 len0 cap0 a0 W w0 y0).mono fun e W' ⟨he, bel⟩ => ?_
  subst he
  exact ⟨_, rfl, law_post laidOut (by rw [Try.params3]; decide +kernel) rfl Try.underlying4 rfl hW' (fun _ => rfl) bel⟩
theorem over : Rows.cachePlaysRow.holds Try.pinned (OpenSpec.ofChange Rows.cachePlaysSpec) :=
  OpenClaim.holds_of_wide 3 Try.f3 rfl rfl rfl rfl rfl rfl rfl ⟨rfl, rfl, rfl, rfl, rfl⟩ rfl rfl rfl rfl rfl (by kernel_rfl) Try.func3 (by kernel_rfl)
    (of_decide_eq_true (by kernel_rfl)) (by unfold Func.isWrapper; first | (rw [if_pos (by decide +kernel)]; kernel_rfl) | (rw [if_neg (by decide +kernel)]; exact ⟨rfl, rfl⟩))
    (fun os started H enc _ => lifted os started H enc)
theorem proved : Rows.CachePlaysSaid := over
end Go.Proofs.Ytocnpjmhkgnomaa.cachePlays
