/- BagPlays: messages wait, come, get lost, and come twice, call by call, as the document's network tells: for any calls. -/
import Derived.Test.YtakhhpakajafkaaRows
import Derived.Test.YtakhhpakajafkaaAwake05
import Derived.Test.YtakhhpakajafkaaOps05
import Derived.Test.YtakhhpakajafkaaEqo05
import Derived.Deep.DeepCutAuto
import Derived.Deep.CutBlock
namespace Go.Proofs.Ytakhhpakajafkaa.bagPlays
open Go.RowKit Go.ChangeShapes Go.WideShapes Go.ChangeAt
open Go.ChangeMaps (open_string shut_string)

/-- The four numbers of a call, as it lies in a block of the statement's own. -/
abbrev Sq (q : Nat) (o : OpV) : World → Prop := fun u => u.cell? ⟨q, 1, none⟩ = some (.int .i64 o.frm) ∧ u.cell? ⟨q, 2, none⟩ = some (.int .i64 o.to) ∧ u.cell? ⟨q, 3, none⟩ = some (.int .i64 o.which) ∧ u.cell? ⟨q, 4, none⟩ = some (.string (str o.body))
theorem Sq.to {q : Nat} {o : OpV} {w w' : World} (h : Sq q o w) (m : ∀ k, w'.cell? ⟨q, k, none⟩ = w.cell? ⟨q, k, none⟩) : Sq q o w' := ⟨(m 1).trans h.1, (m 2).trans h.2.1, (m 3).trans h.2.2.1, (m 4).trans h.2.2.2⟩
theorem Sq.below {q : Nat} {o : OpV} {w w' : World} (h : Sq q o w) (m : Below w.heap.size w w') : Sq q o w' := h.to fun k => m.cell (p := ⟨q, k, none⟩) (lt_of_cell h.1)
theorem bo_start {W w : World} {b : Nat} (h : Own W w b NS.none (fun _ => False)) (t : TypeId) : Bo W (w.alloc (.cells #[.slice none 0 0] t)) b NS.none w.heap.size (.slice none 0 0) [] (fun _ => False) := by
  refine ⟨(h.alloc _).weak (fun g hg => ?_), ⟨by simp [go_sem], by simp [go_sem], Ps.nil _ _, fun e => (by simp [Value.ownBlock] at e), Nat.zero_le _⟩, h.below.size, fun _ h => h.elim, fun _ h => h.elim⟩
  rcases hg with rfl | hg | hg
  · exact .inr rfl
  · cases hg
  · exact hg.elim
set_option maxRecDepth 100000 in
set_option maxHeartbeats 8000000 in
theorem walk (x : Option Addr) (len cap : Nat) (vs : Nat → OpV) (w : World) (h : IsOps w x len vs) (_ : len ≤ cap) :
    Calls Try.prog 3 #[.slice x len cap] w fun e w' => e = .returned (.bool true) ∧ Below w.heap.size w w' := by
  have Hh := Lib.hid h
  have hlm : len ≤ 9223372036854775807 := by have := h.max; unfold maxLen at this; omega
  clear h
  go_enter Try.func3, Try.ntmps3
  go_wp2_with fail
  refine (awake_any _).mono ?_
  rintro e w1 ⟨rfl, hb⟩
  have HB := Lib.hid hb
  clear hb
  go_wp2_with fail
  refine (New_own w HB.out).mono ?_
  rintro e w2 ⟨b, rfl, h2, _⟩
  have H2 := Lib.hid h2
  clear h2
  go_upto_block 0 with (fail)
  obtain ⟨c, Hc⟩ : ∃ c, Hid (w2.heap.size = c) := ⟨_, Lib.hid rfl⟩
  have HS : Hid (Bo w (w2.alloc (.cells #[.slice none 0 0] 29)) b NS.none c (.slice none 0 0) [] (fun _ => False)) := Lib.hid (by rw [← Hc.out]; exact bo_start H2.out _)
  rw [Hc.out]
  go_wp2
  go_loopw [6] (fun iv wr => ∃ (i : Nat) (s : NS) (v : Value) (L : List Pcl), iv = .int .i64 (i : Int) ∧ i ≤ len ∧ Hid (EqN s L) ∧ Hid (Bo w wr b s c v L (fun _ => False))) (fun iv _ => len - (intOf iv).toNat)
  case atStart => exact ⟨0, _, _, _, rfl, Nat.zero_le _, Lib.hid eqn_none, HS⟩
  case round =>
    obtain ⟨i, s, v, L, rfl, hi, HQ, HA⟩ := hrel
    by_cases hlt : i < len ∧ i < 100
    · obtain ⟨h1, h2⟩ := hlt
      have h1' : (i : Int) < (len : Int) := by omega
      have h2' : (i : Int) < 100 := by omega
      obtain ⟨g, of, rfl, hop⟩ := Hh.out.at HA.out.own.below h1
      obtain ⟨o, Ho⟩ : ∃ o, Hid (vs i = o) := ⟨_, Lib.hid rfl⟩
      rw [Ho.out] at hop
      obtain ⟨c0, c1, c2, c3, c4, wk, wf, wt, ww, wb⟩ := hop
      have Hww := Lib.hid ww
      have Hwb := Lib.hid wb
      obtain ⟨km, Hkm⟩ : ∃ m, Hid (o.kind.tmod 10 = m) := ⟨_, Lib.hid rfl⟩
      have hkb : -10 < km ∧ km < 10 := by
        rw [← Hkm.out]
        have h2 := Int.tmod_lt_of_pos o.kind (b := 10) (by decide)
        have h3 := Int.lt_tmod_of_pos o.kind (b := 10) (by decide)
        omega
      obtain ⟨hk1, hk2⟩ := hkb
      go_upto_if 46 with (fail)
      obtain ⟨w4, Hw4⟩ : ∃ w4, Hid (wr.alloc (.cells #[.int .i64 o.kind, .int .i64 o.frm, .int .i64 o.to, .int .i64 o.which, .string (str o.body)] 31) = w4) := ⟨_, Lib.hid rfl⟩
      obtain ⟨q, Hq⟩ : ∃ q, Hid (wr.heap.size = q) := ⟨_, Lib.hid rfl⟩
      have HA4 : Hid (Bo w w4 b s c v L (· = q)) := Lib.hid (by rw [← Hw4.out, ← Hq.out]; exact (HA.out.alloc _).weak (fun g hg => .inr hg))
      have HX4 : Hid (Sq q o w4) := Lib.hid (by rw [← Hw4.out, ← Hq.out]; refine ⟨?_, ?_, ?_, ?_⟩ <;> simp [go_sem])
      rw [show wr.alloc (.cells #[.int .i64 o.kind, .int .i64 o.frm, .int .i64 o.to, .int .i64 o.which, .string (str o.body)] 31) = w4 from Hw4.out, Hq.out]
      rw [Hkm.out]
      clear c0 c1 c2 c3 c4 wk wf wt ww wb
      go_cut [8] (fun kv wx => ∃ k : Nat, k < 10 ∧ kv = .int .i64 (k : Int) ∧ w4 = wx)
      case first =>
        by_cases hneg : km < 0
        · go_wp2
          go_meet
          exact ⟨(km + 10).toNat, by omega, by rw [Int.toNat_of_nonneg (by omega)], rfl⟩
        · go_wp2
          go_meet
          exact ⟨km.toNat, by omega, by rw [Int.toNat_of_nonneg (by omega)], rfl⟩
      case rest =>
        obtain ⟨k, hk, rfl, rfl⟩ := hcut
        go_upto_block 2 with (fail)
        go_cut [9] (fun ov wx => ov = .bool true ∧ ∃ (s' : NS) (v' : Value) (L' : List Pcl), Hid (EqN s' L') ∧ Hid (Bo w wx b s' c v' L' (· = q)) ∧ Hid (Sq q o wx))
        case first =>
          obtain hk4 | rfl | rfl | rfl | rfl | rfl | rfl : k < 4 ∨ k = 4 ∨ k = 5 ∨ k = 6 ∨ k = 7 ∨ k = 8 ∨ k = 9 := by omega
          · as_aux_lemma =>
              have q4 : ((k : Int) == 4) = false := beq_no (by omega)
              have q5 : ((k : Int) == 5) = false := beq_no (by omega)
              have q6 : ((k : Int) == 6) = false := beq_no (by omega)
              have q7 : ((k : Int) == 7) = false := beq_no (by omega)
              have q8 : ((k : Int) == 8) = false := beq_no (by omega)
              have q9 : ((k : Int) == 9) = false := beq_no (by omega)
              obtain ⟨_, _, _, x4⟩ := HX4.out
              have hwb := Hwb.out
              go_wp2_with fail
              refine (short_any o.body hwb 100 _).mono ?_
              rintro e wS ⟨rfl, rfl⟩
              obtain ⟨T, HT⟩ : ∃ T, Hid (o.body.take 100 = T) := ⟨_, Lib.hid rfl⟩
              have hTl : T.length ≤ 9223372036854775807 := by rw [← HT.out, List.length_take]; omega
              rw [HT.out]
              clear x4 hwb
              obtain ⟨wS, HwS⟩ : ∃ u : World, u = w4 := ⟨_, rfl⟩
              subst HwS
              have HAS := HA4
              have HXS := HX4
              go_wp2_with fail
              have k1 : ∀ y : In (Sq q o), y.u.cell? ⟨q, 1, none⟩ = some (.int .i64 o.frm) := fun y => y.is.1
              have k2 : ∀ y : In (Sq q o), y.u.cell? ⟨q, 2, none⟩ = some (.int .i64 o.to) := fun y => y.is.2.1
              have k3 : ∀ y : In (Sq q o), y.u.cell? ⟨q, 3, none⟩ = some (.int .i64 o.which) := fun y => y.is.2.2.1
              have : Nonempty (In (Sq q o)) := ⟨⟨wS, HXS.out⟩⟩
              refine wp_region_mix (by kernel_rfl) (Cls (Sq q o)) [(0, 0), (1, 0), (2, 0), (3, 0), (4, 0), (5, 0), (7, 0), (8, 0), (9, 0), (10, 0), (11, 0), (12, 0), (6, 1), (13, 1), (14, 0), (15, 0)] (by kernel_rfl) (cls HXS.out) ?_
              repeat (refine mix0 rfl (fun K hK => ?_); go_simp; refine hK _ ?_; clear hK K)
              refine mix1 rfl (fun K hK => ?_)
              go_simp
              have HAd := Lib.hid (HAS.out.to ((Below.refl wS.heap.size wS).drew))
              have HXd : Hid (Sq q o wS.drew) := Lib.hid HXS.out
              refine (Send_own HAd.out.own o.frm o.to T hTl).mono ?_
              rintro e w5 ⟨rfl, o5, m5⟩
              have hb5 := HAd.out.net o5 m5
              have HA5 := Lib.hid hb5.1
              have HX5 : Hid (Sq q o w5) := Lib.hid (Sq.to HXd.out fun k => hb5.2 q k rfl)
              clear o5 m5 hb5
              refine ⟨_, rfl, hK _ _ (cls HX5.out) ?_⟩
              clear hK K
              refine mix1 rfl (fun K hK => ?_)
              go_simp
              refine (SendR_any HA5.out.rn HA5.out.size HQ.out.room o.frm o.to T hTl).mono ?_
              intro e w6 hT6
              have hd6 := hT6
              have hq6 := eqn_sendS HQ.out o.frm o.to T
              rw [eqn_sendB HQ.out] at hd6 hq6
              obtain ⟨rfl, v6, hb6, hx6⟩ := HA5.out.ref hd6
              have HQ6 := Lib.hid hq6
              have HA6 := Lib.hid hb6
              have HX6 : Hid (Sq q o w6) := Lib.hid (Sq.to HX5.out fun k => hx6 q k rfl)
              clear hT6 hd6 hq6 hb6 hx6
              refine ⟨_, rfl, hK _ _ (cls HX6.out) ?_⟩
              clear hK K
              repeat (refine mix0 rfl (fun K hK => ?_); go_simp; refine hK _ ?_; clear hK K)
              refine mixEnd ?_
              clear k1 k2 k3
              go_wp2
              go_meet
              exact ⟨by simp, _, v6, _, HQ6, HA6, HX6⟩
          · as_aux_lemma =>
              obtain ⟨x1, x2, x3, _⟩ := HX4.out
              go_wp2_with fail
              obtain ⟨T, HT⟩ : ∃ T, Hid (tkT s o.frm o.to o.which = T) := ⟨_, Lib.hid rfl⟩
              obtain ⟨Bk, HBk⟩ : ∃ T, Hid (tkB s o.frm o.to = T) := ⟨_, Lib.hid rfl⟩
              refine (Take_own HA4.out.own o.frm o.to Hww.out).mono ?_
              rw [HT.out, HBk.out]
              rintro e w5 ⟨rfl, o5, m5⟩
              have hb5 := HA4.out.net o5 m5
              have HA5 := Lib.hid hb5.1
              have HX5 : Hid (Sq q o w5) := Lib.hid (Sq.to HX4.out fun k => hb5.2 q k rfl)
              clear o5 m5 hb5
              clear x1 x2 x3
              obtain ⟨x1, x2, x3, _⟩ := HX5.out
              go_wp2_with fail
              refine (TakeR_any HA5.out.rn HA5.out.size o.frm o.to Hww.out).mono ?_
              intro e w6 hT6
              obtain ⟨L6, hd6, hq6⟩ := eqn_take HQ.out hT6
              rw [HT.out, HBk.out] at hd6
              obtain ⟨rfl, v6, hb6, hx6⟩ := HA5.out.ref hd6
              have HQ6 := Lib.hid hq6
              have HA6 := Lib.hid hb6
              have HX6 : Hid (Sq q o w6) := Lib.hid (Sq.to HX5.out fun k => hx6 q k rfl)
              clear hT6 hd6 hq6 hb6 hx6 x1 x2 x3
              go_wp2
              go_meet
              exact ⟨by simp, _, v6, L6, HQ6, HA6, HX6⟩
          · as_aux_lemma =>
              obtain ⟨x1, x2, x3, _⟩ := HX4.out
              go_wp2_with fail
              obtain ⟨T, HT⟩ : ∃ T, Hid (tkT s o.frm o.to o.which = T) := ⟨_, Lib.hid rfl⟩
              obtain ⟨Bk, HBk⟩ : ∃ T, Hid (tkB s o.frm o.to = T) := ⟨_, Lib.hid rfl⟩
              refine (Take_own HA4.out.own o.frm o.to Hww.out).mono ?_
              rw [HT.out, HBk.out]
              rintro e w5 ⟨rfl, o5, m5⟩
              have hb5 := HA4.out.net o5 m5
              have HA5 := Lib.hid hb5.1
              have HX5 : Hid (Sq q o w5) := Lib.hid (Sq.to HX4.out fun k => hb5.2 q k rfl)
              clear o5 m5 hb5
              clear x1 x2 x3
              obtain ⟨x1, x2, x3, _⟩ := HX5.out
              go_wp2_with fail
              refine (TakeR_any HA5.out.rn HA5.out.size o.frm o.to Hww.out).mono ?_
              intro e w6 hT6
              obtain ⟨L6, hd6, hq6⟩ := eqn_take HQ.out hT6
              rw [HT.out, HBk.out] at hd6
              obtain ⟨rfl, v6, hb6, hx6⟩ := HA5.out.ref hd6
              have HQ6 := Lib.hid hq6
              have HA6 := Lib.hid hb6
              have HX6 : Hid (Sq q o w6) := Lib.hid (Sq.to HX5.out fun k => hx6 q k rfl)
              clear hT6 hd6 hq6 hb6 hx6 x1 x2 x3
              go_wp2
              go_meet
              exact ⟨by simp, _, v6, L6, HQ6, HA6, HX6⟩
          · as_aux_lemma =>
              obtain ⟨_, _, x3, _⟩ := HX4.out
              go_wp2_with fail
              refine (any_both HA4.out.own HQ.out Hww.out).mono ?_
              rintro e w5 ⟨p, bv, s5, rfl, o5, m5, hA⟩
              have HAny := Lib.hid hA
              have hb5 := HA4.out.net o5 m5
              have HA5 := Lib.hid hb5.1
              have HX5 : Hid (Sq q o w5) := Lib.hid (Sq.to HX4.out fun k => hb5.2 q k rfl)
              clear o5 m5 hb5 hA x3
              go_upto_region 24 with (fail)
              obtain ⟨wA, HwA⟩ : ∃ u, Hid (w5.alloc (.cells #[.int .i64 p.1, .int .i64 p.2.1, .string (str p.2.2)] 35) = u) := ⟨_, Lib.hid rfl⟩
              obtain ⟨gA, HgA⟩ : ∃ u, Hid (w5.heap.size = u) := ⟨_, Lib.hid rfl⟩
              have HBA : Hid (Bo w wA b s5 c v L (fun g => g = q ∨ g = gA)) := Lib.hid (by rw [← HwA.out, ← HgA.out]; exact HA5.out.alloc _)
              have HXA : Hid (Sq q o wA) := Lib.hid (HX5.out.below (by rw [← HwA.out]; exact balloc (Below.refl _ _) _))
              have HPA : Hid (Boxed3 wA gA 35 (.int .i64 p.1) (.int .i64 p.2.1) (.string (str p.2.2))) := Lib.hid (by rw [← HwA.out, ← HgA.out]; exact Boxed3.new w5 _ _ _ _)
              rw [show w5.alloc (.cells #[.int .i64 p.1, .int .i64 p.2.1, .string (str p.2.2)] 35) = wA from HwA.out, HgA.out]
              obtain ⟨_, _, x3, _⟩ := HXA.out
              go_wp2_with fail
              refine (AnyR_any HBA.out.rn HBA.out.size (eqn_lens HQ.out) Hww.out).mono ?_
              intro e w6 hT6
              obtain ⟨L6, hd6, hq6⟩ := HAny.out _ _ _ _ _ _ hT6
              obtain ⟨rfl, v6, hb6, hx6⟩ := HBA.out.ref hd6
              have HQ6 := Lib.hid hq6
              have HA6 := Lib.hid hb6
              have HX6 : Hid (Sq q o w6) := Lib.hid (Sq.to HXA.out fun k => hx6 q k (.inl rfl))
              have HC6 : Hid (w6.cell? ⟨gA, 0, none⟩ = some (.int .i64 p.1) ∧ w6.cell? ⟨gA, 1, none⟩ = some (.int .i64 p.2.1) ∧ w6.cell? ⟨gA, 2, none⟩ = some (.string (str p.2.2))) := Lib.hid ⟨(hx6 gA 0 (.inr rfl)).trans HPA.out.cell0, (hx6 gA 1 (.inr rfl)).trans HPA.out.cell1, (hx6 gA 2 (.inr rfl)).trans HPA.out.cell2⟩
              have HgA6 : Hid (gA < w6.heap.size) := Lib.hid (lt_of_cell HC6.out.1)
              clear hT6 hd6 hq6 hb6 hx6 x3
              obtain ⟨y0, y1, y2⟩ := HC6.out
              have hgl := HgA6.out
              have E : ∀ u, (binOp .eql 35 (.agg #[.int .i64 p.1, .int .i64 p.2.1, .string (str p.2.2)]) (.agg #[.int .i64 p.1, .int .i64 p.2.1, .string (str p.2.2)])).run Try.prog u = .ok (.bool true) u := fun u => by rw [eql_parcel, (pcl_eq p p).2 rfl]
              go_wp2
              clear E y0 y1 y2
              have HA7 : Hid (Bo w (w6.alloc (.cells #[.int .i64 p.1, .int .i64 p.2.1, .string (str p.2.2)] 35)) b s5 c v6 L6 (· = q)) := Lib.hid ((HA6.out.to (balloc (Below.refl _ _) _)).weak (fun _ h => .inl h))
              have HX7 : Hid (Sq q o (w6.alloc (.cells #[.int .i64 p.1, .int .i64 p.2.1, .string (str p.2.2)] 35))) := Lib.hid (HX6.out.below (balloc (Below.refl _ _) _))
              go_meet
              exact ⟨by simp, _, v6, L6, HQ6, HA7, HX7⟩
          · as_aux_lemma =>
              obtain ⟨x1, x2, x3, _⟩ := HX4.out
              go_wp2_with fail
              refine (TakeR_any HA4.out.rn HA4.out.size o.frm o.to Hww.out).mono ?_
              intro e w5 hT6
              obtain ⟨L6, hd6, hq6⟩ := eqn_take HQ.out hT6
              obtain ⟨Bk, HBk⟩ : ∃ T, Hid (tkB s o.frm o.to = T) := ⟨_, Lib.hid rfl⟩
              obtain ⟨T, HT⟩ : ∃ T, Hid (tkT s o.frm o.to o.which = T) := ⟨_, Lib.hid rfl⟩
              rw [HBk.out, HT.out] at hd6
              obtain ⟨rfl, v6, hb6, hx6⟩ := HA4.out.ref hd6
              have HQ6 := Lib.hid hq6
              have HA5' := Lib.hid hb6
              have HX5' : Hid (Sq q o w5) := Lib.hid (Sq.to HX4.out fun k => hx6 q k rfl)
              clear hT6 hd6 hq6 hb6 hx6 x1 x2 x3
              obtain ⟨x1, x2, x3, _⟩ := HX5'.out
              go_wp2_with fail
              refine (Drop_own HA5'.out.own o.frm o.to Hww.out).mono ?_
              rw [HBk.out]
              rintro e w6 ⟨rfl, o6, m6⟩
              have hb7 := HA5'.out.net o6 m6
              have HA6 := Lib.hid hb7.1
              have HX6 : Hid (Sq q o w6) := Lib.hid (Sq.to HX5'.out fun k => hb7.2 q k rfl)
              clear o6 m6 hb7 x1 x2 x3
              go_wp2
              go_meet
              exact ⟨by simp, _, v6, L6, HQ6, HA6, HX6⟩
          · as_aux_lemma =>
              obtain ⟨wS, HwS⟩ : ∃ u : World, u = w4 := ⟨_, rfl⟩
              subst HwS
              have HAS := HA4
              have HXS := HX4
              go_wp2_with fail
              have k1 : ∀ y : In (Sq q o), y.u.cell? ⟨q, 1, none⟩ = some (.int .i64 o.frm) := fun y => y.is.1
              have k2 : ∀ y : In (Sq q o), y.u.cell? ⟨q, 2, none⟩ = some (.int .i64 o.to) := fun y => y.is.2.1
              have k3 : ∀ y : In (Sq q o), y.u.cell? ⟨q, 3, none⟩ = some (.int .i64 o.which) := fun y => y.is.2.2.1
              have : Nonempty (In (Sq q o)) := ⟨⟨wS, HXS.out⟩⟩
              refine wp_region_mix (by kernel_rfl) (Cls (Sq q o)) [(0, 0), (1, 0), (2, 0), (3, 0), (4, 0), (5, 0), (6, 0), (8, 0), (9, 0), (10, 0), (11, 0), (12, 0), (13, 0), (14, 0), (7, 1), (15, 1), (16, 0), (17, 0)] (by kernel_rfl) (cls HXS.out) ?_
              repeat (refine mix0 rfl (fun K hK => ?_); go_simp; refine hK _ ?_; clear hK K)
              refine mix1 rfl (fun K hK => ?_)
              go_simp
              have HAd := Lib.hid (HAS.out.to ((Below.refl wS.heap.size wS).drew))
              have HXd : Hid (Sq q o wS.drew) := Lib.hid HXS.out
              refine (Double_own HAd.out.own o.frm o.to Hww.out).mono ?_
              rintro e w5 ⟨rfl, o5, m5⟩
              have hb5 := HAd.out.net o5 m5
              have HA5 := Lib.hid hb5.1
              have HX5 : Hid (Sq q o w5) := Lib.hid (Sq.to HXd.out fun k => hb5.2 q k rfl)
              clear o5 m5 hb5
              refine ⟨_, rfl, hK _ _ (cls HX5.out) ?_⟩
              clear hK K
              refine mix1 rfl (fun K hK => ?_)
              go_simp
              refine (DoubleR_any HA5.out.rn HA5.out.size HQ.out.room o.frm o.to Hww.out).mono ?_
              intro e w6 hT6
              obtain ⟨L6, hd6, hq6⟩ := eqn_double HQ.out hT6
              obtain ⟨rfl, v6, hb6, hx6⟩ := HA5.out.ref hd6
              have HQ6 := Lib.hid hq6
              have HA6 := Lib.hid hb6
              have HX6 : Hid (Sq q o w6) := Lib.hid (Sq.to HX5.out fun k => hx6 q k rfl)
              clear hT6 hd6 hq6 hb6 hx6
              refine ⟨_, rfl, hK _ _ (cls HX6.out) ?_⟩
              clear hK K
              repeat (refine mix0 rfl (fun K hK => ?_); go_simp; refine hK _ ?_; clear hK K)
              refine mixEnd ?_
              clear k1 k2 k3
              go_wp2
              go_meet
              exact ⟨by simp, _, v6, _, HQ6, HA6, HX6⟩
          · as_aux_lemma =>
              obtain ⟨wS, HwS⟩ : ∃ u : World, u = w4 := ⟨_, rfl⟩
              subst HwS
              have HAS := HA4
              have HXS := HX4
              go_wp2_with fail
              have k1 : ∀ y : In (Sq q o), y.u.cell? ⟨q, 1, none⟩ = some (.int .i64 o.frm) := fun y => y.is.1
              have k2 : ∀ y : In (Sq q o), y.u.cell? ⟨q, 2, none⟩ = some (.int .i64 o.to) := fun y => y.is.2.1
              have k3 : ∀ y : In (Sq q o), y.u.cell? ⟨q, 3, none⟩ = some (.int .i64 o.which) := fun y => y.is.2.2.1
              have : Nonempty (In (Sq q o)) := ⟨⟨wS, HXS.out⟩⟩
              refine wp_region_mix (by kernel_rfl) (Cls (Sq q o)) [(0, 0), (1, 0), (2, 0), (4, 0), (5, 0), (6, 0), (3, 1), (7, 1), (8, 0), (9, 0)] (by kernel_rfl) (cls HXS.out) ?_
              repeat (refine mix0 rfl (fun K hK => ?_); go_simp; refine hK _ ?_; clear hK K)
              refine mix1 rfl (fun K hK => ?_)
              go_simp
              have HAd := Lib.hid (HAS.out.to ((Below.refl wS.heap.size wS).drew))
              have HXd : Hid (Sq q o wS.drew) := Lib.hid HXS.out
              refine (Void_own HAd.out.own o.frm).mono ?_
              rintro e w5 ⟨rfl, o5, m5⟩
              have hb5 := HAd.out.net o5 m5
              have HA5 := Lib.hid hb5.1
              have HX5 : Hid (Sq q o w5) := Lib.hid (Sq.to HXd.out fun k => hb5.2 q k rfl)
              clear o5 m5 hb5
              refine ⟨_, rfl, hK _ _ (cls HX5.out) ?_⟩
              clear hK K
              refine mix1 rfl (fun K hK => ?_)
              go_simp
              refine (VoidR_any HA5.out.rn HA5.out.size o.frm).mono ?_
              intro e w6 hT6
              have hd6 := hT6
              rw [← eqn_voidN HQ.out o.frm] at hd6
              have hq6 := eqn_void HQ.out o.frm
              obtain ⟨rfl, v6, hb6, hx6⟩ := HA5.out.ref hd6
              have HQ6 := Lib.hid hq6
              have HA6 := Lib.hid hb6
              have HX6 : Hid (Sq q o w6) := Lib.hid (Sq.to HX5.out fun k => hx6 q k rfl)
              clear hT6 hd6 hq6 hb6 hx6
              refine ⟨_, rfl, hK _ _ (cls HX6.out) ?_⟩
              clear hK K
              repeat (refine mix0 rfl (fun K hK => ?_); go_simp; refine hK _ ?_; clear hK K)
              refine mixEnd ?_
              clear k1 k2 k3
              go_wp2
              go_meet
              exact ⟨by simp, _, v6, _, HQ6, HA6, HX6⟩
        case rest =>
          obtain ⟨rfl, s', v', L', HQ', HA', HX'⟩ := hcut
          as_aux_lemma =>
            go_wp2_with fail
            refine (All_own HA'.out.own).mono ?_
            rintro e w7 ⟨v7, rfl, p7, b7⟩
            have HA7 := Lib.hid (HA'.out.to b7)
            have HX7 := Lib.hid (HX'.out.below b7)
            have HP7 := Lib.hid p7
            obtain ⟨a7, cap7, hv7⟩ := p7.slice
            subst hv7
            clear p7 b7
            go_wp2_with fail
            refine (AllR_any HA7.out.rn (fun n hn => by have := eqn_lens HQ'.out n hn; omega)).mono ?_
            rw [HQ'.out.all 64 (Nat.le_refl _)]
            rintro e w8 ⟨v8, rfl, p8, b8⟩
            have HA8 := Lib.hid (HA7.out.to b8)
            have HX8 := Lib.hid (HX7.out.below b8)
            have HP78 := Lib.hid (HP7.out.below b8)
            have HP8 := Lib.hid p8
            obtain ⟨a8, cap8, hv8⟩ := p8.slice
            subst hv8
            clear p8 b8
            go_wp2_with fail
            refine (Same_any HP78.out HP8.out (by have := eqn_lens HQ'.out 64 (Nat.le_refl _); rw [HQ'.out.all 64 (Nat.le_refl _)] at this; omega)).mono ?_
            rintro e w9 ⟨rfl, b9⟩
            have HA9 := Lib.hid (HA8.out.to b9)
            have HX9 := Lib.hid (HX8.out.below b9)
            clear b9
            obtain ⟨C, HC⟩ : ∃ C, Hid (cntR L' o.frm o.to = C) := ⟨_, Lib.hid rfl⟩
            have Hcn : Hid ((onL s' o.frm o.to).length = C) := Lib.hid (by rw [← HC.out, HQ'.out.cnt])
            go_wp2_with fail
            have k1 : ∀ y : In (Abv w9), y.u.cell? ⟨q, 1, none⟩ = some (.int .i64 o.frm) := fun y => (y.is.cell (p := ⟨q, 1, none⟩) (lt_of_cell HX9.out.1)).trans HX9.out.1
            have k2 : ∀ y : In (Abv w9), y.u.cell? ⟨q, 2, none⟩ = some (.int .i64 o.to) := fun y => (y.is.cell (p := ⟨q, 2, none⟩) (lt_of_cell HX9.out.1)).trans HX9.out.2.1
            refine wp_region_mix (by kernel_rfl) (Cls (Abv w9)) [(0, 0), (1, 0), (2, 0), (3, 0), (4, 0), (5, 0), (6, 0), (7, 0), (8, 0), (9, 0), (10, 0), (11, 0), (13, 0), (14, 0), (15, 0), (16, 0), (17, 0), (12, 1), (18, 1), (19, 0), (20, 0)] (by kernel_rfl) (cls (Below.refl _ _).drew) ?_
            repeat (refine mix0 rfl (fun K hK => ?_); go_simp; refine hK _ ?_; clear hK K)
            refine mix1 rfl (fun K hK => ?_)
            go_simp
            have HAd := Lib.hid (HA9.out.to ((Below.refl w9.heap.size w9).drew))
            refine (Waits_own HAd.out.own o.frm o.to).mono ?_
            rw [Hcn.out]
            rintro e w10 ⟨rfl, rfl⟩
            refine ⟨_, rfl, hK _ _ (cls (Below.refl _ _).drew) ?_⟩
            clear hK K
            refine mix1 rfl (fun K hK => ?_)
            go_simp
            refine (WaitsR HAd.out.rn o.frm o.to).mono ?_
            rw [HC.out]
            rintro e w10 ⟨rfl, rfl⟩
            refine ⟨_, rfl, hK _ _ (cls (Below.refl _ _).drew) ?_⟩
            clear hK K
            repeat (refine mix0 rfl (fun K hK => ?_); go_simp; refine hK _ ?_; clear hK K)
            refine mixEnd ?_
            clear k1 k2
            have HAe := Lib.hid (HAd.out.weak (E' := fun _ => False) (fun _ h => h.elim))
            go_wp2
            go_roundw
            case rel => exact ⟨i + 1, s', v', L', by go_num, by omega, HQ', HAe⟩
            case measure => simp [intOf]; omega
    · by_cases h1 : i < len
      · have h1' : (i : Int) < (len : Int) := by omega
        have h2' : ¬ (i : Int) < 100 := by omega
        go_wp2
        go_ret
        exact ⟨rfl, HA.out.own.below⟩
      · have h1' : ¬ (i : Int) < (len : Int) := by omega
        go_wp2
        go_ret
        exact ⟨rfl, HA.out.own.below⟩
theorem own : ownKnob Try.prog.godebug = none := by kernel_rfl
theorem laidOut : laidOutB Try.prog = true := by kernel_rfl
set_option maxRecDepth 100000 in
theorem lifted (os : Os) (started : os.Started) (H : Type) (enc : TypeId × Value → H) :
    ReturnsInHanded {} Try.checked os 3 .any (Rows.bagPlaysSpec.pre6 enc Try.prog Try.f3 Rows.bagPlaysRow.domain false) (Rows.bagPlaysSpec.post enc Try.prog Try.f3 false true false false) := by
  refine returnsInHanded_of_change (C := Try.checked) own started (by kernel_rfl) Try.func3
    (ChangeSpec.witness6 (enc := enc) (C := Try.checked) false ⟨#[], #[.slice none 0 0], []⟩ 8 (by kernel_rfl) (by kernel_rfl) (by kernel_rfl) (by kernel_rfl)) ?_
  intro W base args ds gs before hval0 hW hcnd _
  have hval : ∀ (j : Nat) t v, Try.f3.params[j]? = some t → args[j]? = some v → Value.okWide Try.prog W .any base t v := hval0
  have hW' := hW
  obtain ⟨p, q, hA0, hV, rfl, hfz, hnd⟩ := hW
  have hA : DataW.TrodAll enc Try.prog W 0 (fun _ => true) true Try.f3.params.toList args.toList ds p := hA0
  rw [Try.params3] at hA hval
  obtain ⟨v0, vs0, d0, ds0, p0, q0, hargs, rfl, rfl, h0, r0⟩ := trodAll_cons hA
  obtain ⟨rfl, rfl, rfl⟩ := trodAll_nil r0
  obtain rfl : args = #[v0] := by cases args; simp_all
  obtain ⟨x0, len0, cap0, a0, rfl, w0, y0⟩ := opens_ops (hval 0 22 v0 rfl rfl) h0
  clear hA0 hval0
  refine (walk x0 len0 cap0 a0 W w0 y0).mono fun e W' ⟨he, bel⟩ => ?_
  subst he
  exact ⟨_, rfl, law_post laidOut (by rw [Try.params3]; decide +kernel) rfl Try.underlying4 rfl hW' (fun _ => rfl) bel⟩
theorem over : Rows.bagPlaysRow.holds Try.pinned (OpenSpec.ofChange Rows.bagPlaysSpec) :=
  OpenClaim.holds_of_wide 3 Try.f3 rfl rfl rfl rfl rfl rfl rfl ⟨rfl, rfl, rfl, rfl, rfl⟩ rfl rfl rfl rfl rfl (by kernel_rfl) Try.func3 (by kernel_rfl)
    (of_decide_eq_true (by kernel_rfl)) (by unfold Func.isWrapper; first | (rw [if_pos (by decide +kernel)]; kernel_rfl) | (rw [if_neg (by decide +kernel)]; exact ⟨rfl, rfl⟩))
    (fun os started H enc _ => lifted os started H enc)
theorem proved : Rows.BagPlaysSaid := over
end Go.Proofs.Ytakhhpakajafkaa.bagPlays
