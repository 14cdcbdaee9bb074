/- PulsePlays: nodes are watched, heard of, forgotten, and late, call by call, as the document's pulse tells: for any limit, any calls. -/
import Derived.Test.YtjmhepipkmbbmaaRows
import Derived.Test.YtjmhepipkmbbmaaOwn7
import Derived.Test.YtjmhepipkmbbmaaOne7
import Derived.Test.YtjmhepipkmbbmaaRefB07
import Derived.Test.YtjmhepipkmbbmaaOps07
import Derived.Deep.CutBlock
namespace Go.Proofs.Ytjmhepipkmbbmaa.pulsePlays
open Go.RowKit Go.ChangeShapes Go.WideShapes Go.ChangeAt
open Go.ChangeMaps (open_string shut_string)

/-- Both pulses of the call's own. -/
structure Duo (W w : World) (b : Nat) (s : PS) (c : Nat) (r : RS) : Prop where
  p : At W w b s
  r : IsR w c r
  le : W.heap.size ≤ c
  ne : b ≠ c
section
variable {W w w' : World} {b c : Nat} {s s' : PS} {r r' : RS}
theorem Duo.to (h : Duo W w b s c r) (m : Below w.heap.size w w') : Duo W w' b s c r := ⟨h.p.to m, h.r.below m, h.le, h.ne⟩
theorem Duo.modp (h : Duo W w b s c r) (m : Mod (· = b) w w') (p : IsP w' b s') : Duo W w' b s' c r := ⟨h.p.mod m p, h.r.later m (fun e => h.ne e.symm), h.le, h.ne⟩
theorem Duo.modr (h : Duo W w b s c r) (m : Mod (· = c) w w') (p : IsR w' c r') : Duo W w' b s c r' := ⟨⟨h.p.p.later m h.ne, bmod h.p.below m h.le, h.p.le⟩, p, h.le, h.ne⟩
theorem Duo.tick (h : Duo W w b s c r) : Duo W (w.setCell ⟨c, 1, none⟩ (.int .i64 (r.now + 1))) b s c (tickR r) :=
  h.modr ((Mod.refl _ _).set1 _) ⟨set_other (by simp) h.r.lim, set_same h.r.now, fun k hk => set_other (by simp; try omega) (h.r.at_ k hk), fun o ho => set_frozen (h.r.free o ho)⟩
end
/-- What a statement's reads want of the world while calls go on. -/
abbrev Sq (q c : Nat) (node now : Int) : World → Prop := fun u => u.cell? ⟨q, 1, none⟩ = some (.int .i64 node) ∧ u.cell? ⟨c, 1, none⟩ = some (.int .i64 now)
set_option maxRecDepth 100000 in
set_option maxHeartbeats 8000000 in
theorem walk (limit : Int) (x : Option Addr) (len cap : Nat) (vs : Nat → OpV) (w : World) (_ : (Lit.int .i64 limit).wf = true) (h : IsOps w x len vs) (_ : len ≤ cap) :
    Calls Try.prog 3 #[.int .i64 limit, .slice x len cap] w fun e w' => e = .returned (.bool true) ∧ Below w.heap.size w w' := by
  have Hh := Lib.hid h
  have hlm : len ≤ 9223372036854775807 := by have := h.max; unfold maxLen at this; omega
  clear h
  go_enter Try.func3, Try.ntmps3
  go_wp2_with fail
  refine (awake_any _).mono ?_
  rintro e w1 ⟨rfl, hb⟩
  have HB := Lib.hid hb
  clear hb
  go_wp2_with fail
  refine (New_at HB.out limit).mono ?_
  rintro e w2 ⟨b, rfl, h2⟩
  have A2 := Lib.hid h2
  clear h2
  go_wp2_with fail
  refine (NewR_any w2 limit).mono ?_
  rintro e w3 ⟨c, rfl, h3, hb3, hc3⟩
  have HD : Hid (Duo w w3 b (PS.new limit) c (RS.new limit)) := Lib.hid ⟨A2.out.to hb3, h3, Nat.le_trans A2.out.below.size hc3, by have := A2.out.p.lt; omega⟩
  have HE := Lib.hid (eqv_new limit)
  clear h3 hb3 hc3 A2 HB
  go_wp2
  go_loopw [8] (fun iv wr => ∃ (i : Nat) (s : PS) (r : RS), iv = .int .i64 (i : Int) ∧ i ≤ len ∧ i ≤ 200 ∧ r.now ≤ (i : Int) ∧ Hid (Eqv s r) ∧ Hid (Duo w wr b s c r)) (fun iv _ => len - (intOf iv).toNat)
  case atStart => exact ⟨0, _, _, rfl, Nat.zero_le _, by omega, Int.le_refl _, HE, HD⟩
  case round =>
    obtain ⟨i, s, r, rfl, hi, hi2, hnow, HQ, HA⟩ := hrel
    by_cases hlt : i < len ∧ i < 200
    · obtain ⟨h1, h2⟩ := hlt
      have h1' : (i : Int) < (len : Int) := by omega
      have h2' : (i : Int) < 200 := by omega
      obtain ⟨g, o, rfl, hop⟩ := Hh.out.at HA.out.p.below h1
      obtain ⟨⟨kind, node⟩, hvs⟩ : ∃ v, vs i = v := ⟨_, rfl⟩
      rw [hvs] at hop
      obtain ⟨c0, c1, wk, wn⟩ := hop
      simp only at c0 c1 wk wn
      obtain ⟨km, Hkm⟩ : ∃ m, Hid (kind.tmod 8 = m) := ⟨_, Lib.hid rfl⟩
      have hkb : -8 < km ∧ km < 8 := by rw [← Hkm.out]; exact tmod_bd kind (by decide)
      obtain ⟨hk1, hk2⟩ := hkb
      go_upto_if 39 with (fail)
      obtain ⟨w4, Hw4⟩ : ∃ w4, Hid (wr.alloc (.cells #[.int .i64 kind, .int .i64 node] 29) = w4) := ⟨_, Lib.hid rfl⟩
      obtain ⟨q, Hq⟩ : ∃ q, Hid (wr.heap.size = q) := ⟨_, Lib.hid rfl⟩
      have HA4 : Hid (Duo w w4 b s c r) := Lib.hid (by rw [← Hw4.out]; exact HA.out.to (balloc (Below.refl _ _) _))
      have hq1 : w4.cell? ⟨q, 1, none⟩ = some (.int .i64 node) := by rw [← Hw4.out, ← Hq.out]; simp [go_sem]
      have Hqb : Hid (q ≠ b ∧ q ≠ c) := Lib.hid (by have := HA.out.p.p.lt; have := HA.out.r.lt; have := Hq.out; omega)
      rw [show wr.alloc (.cells #[.int .i64 kind, .int .i64 node] 29) = w4 from Hw4.out, Hq.out]
      rw [Hkm.out]
      have HQ1 := Lib.hid hq1
      clear c0 c1 hq1
      go_cut [10] (fun kv wx => ∃ k : Nat, k < 8 ∧ kv = .int .i64 (k : Int) ∧ w4 = wx)
      case first =>
        by_cases hneg : km < 0
        · go_wp2
          go_meet
          exact ⟨(km + 8).toNat, by omega, by rw [Int.toNat_of_nonneg (by omega)], rfl⟩
        · go_wp2
          go_meet
          exact ⟨km.toNat, by omega, by rw [Int.toNat_of_nonneg (by omega)], rfl⟩
      case rest =>
        obtain ⟨k, hk, rfl, rfl⟩ := hcut
        go_upto_block 2 with (fail)
        go_cut [11] (fun ov wx => ov = .bool true ∧ ∃ (s' : PS) (r' : RS), r'.now ≤ (i : Int) + 1 ∧ Hid (Eqv s' r') ∧ Hid (Duo w wx b s' c r') ∧ Hid (wx.cell? ⟨q, 1, none⟩ = some (.int .i64 node)))
        case first =>
          obtain hk4 | rfl | rfl | rfl | rfl : k < 4 ∨ k = 4 ∨ k = 5 ∨ k = 6 ∨ k = 7 := by omega
          · have q4 : ((k : Int) == 4) = false := beq_no (by omega)
            have q5 : ((k : Int) == 5) = false := beq_no (by omega)
            have q6 : ((k : Int) == 6) = false := beq_no (by omega)
            have q7 : ((k : Int) == 7) = false := beq_no (by omega)
            go_wp2_with fail
            refine (Tick_any HA4.out.p.p).mono ?_
            rintro e w5 ⟨rfl, p5, m5⟩
            have HA5 := Lib.hid (HA4.out.modp m5 p5)
            have HQ5 : Hid (w5.cell? ⟨q, 1, none⟩ = some (.int .i64 node)) := Lib.hid ((m5.cell (p := ⟨q, 1, none⟩) (lt_of_cell HQ1.out) Hqb.out.1).trans HQ1.out)
            clear p5 m5
            have n5 := HA5.out.r.now
            have f5 := HA5.out.r.free 1 (by omega)
            have n0 := HQ.out.fine.now0
            go_wp2
            go_meet
            exact ⟨rfl, _, _, by simp only [tickR]; omega, Lib.hid (eqv_tick HQ.out (by omega)), Lib.hid HA5.out.tick, Lib.hid (set_other (by simp; have := Hqb.out; omega) HQ5.out)⟩
          · go_wp2_with fail
            have hc1 := HA4.out.r.now
            have k1 : ∀ y : In (Sq q c node r.now), y.u.cell? ⟨q, 1, none⟩ = some (.int .i64 node) := fun y => y.is.1
            have k2 : ∀ y : In (Sq q c node r.now), y.u.cell? ⟨c, 1, none⟩ = some (.int .i64 r.now) := fun y => y.is.2
            have : Nonempty (In (Sq q c node r.now)) := ⟨⟨w4, HQ1.out, hc1⟩⟩
            refine wp_region_mix (by kernel_rfl) (Cls (Sq q c node r.now)) [(0, 0), (1, 0), (2, 0), (4, 0), (5, 0), (6, 0), (7, 0), (8, 0), (9, 0), (10, 0), (3, 1), (11, 1), (12, 0), (13, 0)] (by kernel_rfl) (cls ⟨HQ1.out, hc1⟩) ?_
            repeat (refine mix0 rfl (fun K hK => ?_); go_simp; refine hK _ ?_; clear hK K)
            refine mix1 rfl (fun K hK => ?_)
            go_simp
            refine (Heard_any (HA4.out.to ((Below.refl _ _).drew)).p.p node).mono ?_
            rintro e w5 ⟨rfl, p5, m5⟩
            have HA5 := Lib.hid ((HA4.out.to ((Below.refl _ _).drew)).modp m5 p5)
            have HQ5 : Hid (w5.cell? ⟨q, 1, none⟩ = some (.int .i64 node)) := Lib.hid ((m5.cell (p := ⟨q, 1, none⟩) (by simpa using lt_of_cell HQ1.out) Hqb.out.1).trans HQ1.out)
            clear p5 m5
            refine ⟨_, rfl, hK _ _ (cls ⟨HQ5.out, HA5.out.r.now⟩) ?_⟩
            clear hK K
            refine mix1 rfl (fun K hK => ?_)
            go_simp
            refine (SetR_any HA5.out.r node r.now).mono ?_
            rintro e w6 ⟨rfl, p6, m6⟩
            have HA6 := Lib.hid (HA5.out.modr m6 p6)
            have HQ6 : Hid (w6.cell? ⟨q, 1, none⟩ = some (.int .i64 node)) := Lib.hid ((m6.cell (p := ⟨q, 1, none⟩) (lt_of_cell HQ5.out) Hqb.out.2).trans HQ5.out)
            have N6 : Hid ((setR r node r.now).now = r.now) := Lib.hid (by unfold setR; split <;> rfl)
            clear p6 m6
            refine ⟨_, rfl, hK _ _ (cls ⟨HQ6.out, by rw [← N6.out]; exact HA6.out.r.now⟩) ?_⟩
            clear hK K
            repeat (refine mix0 rfl (fun K hK => ?_); go_simp; refine hK _ ?_; clear hK K)
            refine mixEnd ?_
            clear k1 k2 hc1
            rw [eqv_is HQ.out node]
            go_wp2
            go_meet
            exact ⟨by simp, _, _, by rw [N6.out]; omega, Lib.hid (eqv_heard HQ.out node), HA6, HQ6⟩
          · go_wp2_with fail
            have hc1 := HA4.out.r.now
            have k1 : ∀ y : In (Sq q c node r.now), y.u.cell? ⟨q, 1, none⟩ = some (.int .i64 node) := fun y => y.is.1
            have k2 : ∀ y : In (Sq q c node r.now), y.u.cell? ⟨c, 1, none⟩ = some (.int .i64 r.now) := fun y => y.is.2
            have : Nonempty (In (Sq q c node r.now)) := ⟨⟨w4, HQ1.out, hc1⟩⟩
            refine wp_region_mix (by kernel_rfl) (Cls (Sq q c node r.now)) [(0, 0), (1, 0), (2, 0), (4, 0), (5, 0), (6, 0), (7, 0), (8, 0), (9, 0), (10, 0), (3, 1), (11, 1), (12, 0), (13, 0)] (by kernel_rfl) (cls ⟨HQ1.out, hc1⟩) ?_
            repeat (refine mix0 rfl (fun K hK => ?_); go_simp; refine hK _ ?_; clear hK K)
            refine mix1 rfl (fun K hK => ?_)
            go_simp
            refine (Heard_any (HA4.out.to ((Below.refl _ _).drew)).p.p node).mono ?_
            rintro e w5 ⟨rfl, p5, m5⟩
            have HA5 := Lib.hid ((HA4.out.to ((Below.refl _ _).drew)).modp m5 p5)
            have HQ5 : Hid (w5.cell? ⟨q, 1, none⟩ = some (.int .i64 node)) := Lib.hid ((m5.cell (p := ⟨q, 1, none⟩) (by simpa using lt_of_cell HQ1.out) Hqb.out.1).trans HQ1.out)
            clear p5 m5
            refine ⟨_, rfl, hK _ _ (cls ⟨HQ5.out, HA5.out.r.now⟩) ?_⟩
            clear hK K
            refine mix1 rfl (fun K hK => ?_)
            go_simp
            refine (SetR_any HA5.out.r node r.now).mono ?_
            rintro e w6 ⟨rfl, p6, m6⟩
            have HA6 := Lib.hid (HA5.out.modr m6 p6)
            have HQ6 : Hid (w6.cell? ⟨q, 1, none⟩ = some (.int .i64 node)) := Lib.hid ((m6.cell (p := ⟨q, 1, none⟩) (lt_of_cell HQ5.out) Hqb.out.2).trans HQ5.out)
            have N6 : Hid ((setR r node r.now).now = r.now) := Lib.hid (by unfold setR; split <;> rfl)
            clear p6 m6
            refine ⟨_, rfl, hK _ _ (cls ⟨HQ6.out, by rw [← N6.out]; exact HA6.out.r.now⟩) ?_⟩
            clear hK K
            repeat (refine mix0 rfl (fun K hK => ?_); go_simp; refine hK _ ?_; clear hK K)
            refine mixEnd ?_
            clear k1 k2 hc1
            rw [eqv_is HQ.out node]
            go_wp2
            go_meet
            exact ⟨by simp, _, _, by rw [N6.out]; omega, Lib.hid (eqv_heard HQ.out node), HA6, HQ6⟩
          · go_wp2_with fail
            have hc1 := HA4.out.r.now
            have k1 : ∀ y : In (Sq q c node r.now), y.u.cell? ⟨q, 1, none⟩ = some (.int .i64 node) := fun y => y.is.1
            have k2 : ∀ y : In (Sq q c node r.now), y.u.cell? ⟨c, 1, none⟩ = some (.int .i64 r.now) := fun y => y.is.2
            have : Nonempty (In (Sq q c node r.now)) := ⟨⟨w4, HQ1.out, hc1⟩⟩
            refine wp_region_mix (by kernel_rfl) (Cls (Sq q c node r.now)) [(0, 0), (1, 0), (2, 0), (4, 0), (5, 0), (6, 0), (3, 1), (7, 1), (8, 0), (9, 0)] (by kernel_rfl) (cls ⟨HQ1.out, hc1⟩) ?_
            repeat (refine mix0 rfl (fun K hK => ?_); go_simp; refine hK _ ?_; clear hK K)
            refine mix1 rfl (fun K hK => ?_)
            go_simp
            refine (Watch_any (HA4.out.to ((Below.refl _ _).drew)).p.p node).mono ?_
            rintro e w5 ⟨rfl, p5, m5⟩
            have HA5 := Lib.hid ((HA4.out.to ((Below.refl _ _).drew)).modp m5 p5)
            have HQ5 : Hid (w5.cell? ⟨q, 1, none⟩ = some (.int .i64 node)) := Lib.hid ((m5.cell (p := ⟨q, 1, none⟩) (by simpa using lt_of_cell HQ1.out) Hqb.out.1).trans HQ1.out)
            clear p5 m5
            refine ⟨_, rfl, hK _ _ (cls ⟨HQ5.out, HA5.out.r.now⟩) ?_⟩
            clear hK K
            refine mix1 rfl (fun K hK => ?_)
            go_simp
            refine (WatchR_any HA5.out.r node).mono ?_
            rintro e w6 ⟨rfl, p6, m6⟩
            have HA6 := Lib.hid (HA5.out.modr m6 p6)
            have HQ6 : Hid (w6.cell? ⟨q, 1, none⟩ = some (.int .i64 node)) := Lib.hid ((m6.cell (p := ⟨q, 1, none⟩) (lt_of_cell HQ5.out) Hqb.out.2).trans HQ5.out)
            have N6 : Hid ((watchR r node).now = r.now) := Lib.hid (by unfold watchR; split <;> rfl)
            clear p6 m6
            refine ⟨_, rfl, hK _ _ (cls ⟨HQ6.out, by rw [← N6.out]; exact HA6.out.r.now⟩) ?_⟩
            clear hK K
            repeat (refine mix0 rfl (fun K hK => ?_); go_simp; refine hK _ ?_; clear hK K)
            refine mixEnd ?_
            clear k1 k2 hc1
            rw [eqv_watchB HQ.out node]
            go_wp2
            go_meet
            exact ⟨by simp, _, _, by rw [N6.out]; omega, Lib.hid (eqv_watch HQ.out node), HA6, HQ6⟩
          · go_wp2_with fail
            have hc1 := HA4.out.r.now
            have k1 : ∀ y : In (Sq q c node r.now), y.u.cell? ⟨q, 1, none⟩ = some (.int .i64 node) := fun y => y.is.1
            have k2 : ∀ y : In (Sq q c node r.now), y.u.cell? ⟨c, 1, none⟩ = some (.int .i64 r.now) := fun y => y.is.2
            have : Nonempty (In (Sq q c node r.now)) := ⟨⟨w4, HQ1.out, hc1⟩⟩
            refine wp_region_mix (by kernel_rfl) (Cls (Sq q c node r.now)) [(0, 0), (1, 0), (2, 0), (4, 0), (5, 0), (6, 0), (3, 1), (7, 1), (8, 0), (9, 0)] (by kernel_rfl) (cls ⟨HQ1.out, hc1⟩) ?_
            repeat (refine mix0 rfl (fun K hK => ?_); go_simp; refine hK _ ?_; clear hK K)
            refine mix1 rfl (fun K hK => ?_)
            go_simp
            refine (Forget_any (HA4.out.to ((Below.refl _ _).drew)).p.p node).mono ?_
            rintro e w5 ⟨rfl, p5, m5⟩
            have HA5 := Lib.hid ((HA4.out.to ((Below.refl _ _).drew)).modp m5 p5)
            have HQ5 : Hid (w5.cell? ⟨q, 1, none⟩ = some (.int .i64 node)) := Lib.hid ((m5.cell (p := ⟨q, 1, none⟩) (by simpa using lt_of_cell HQ1.out) Hqb.out.1).trans HQ1.out)
            clear p5 m5
            refine ⟨_, rfl, hK _ _ (cls ⟨HQ5.out, HA5.out.r.now⟩) ?_⟩
            clear hK K
            refine mix1 rfl (fun K hK => ?_)
            go_simp
            refine (SetR_any HA5.out.r node (-1)).mono ?_
            rintro e w6 ⟨rfl, p6, m6⟩
            have HA6 := Lib.hid (HA5.out.modr m6 p6)
            have HQ6 : Hid (w6.cell? ⟨q, 1, none⟩ = some (.int .i64 node)) := Lib.hid ((m6.cell (p := ⟨q, 1, none⟩) (lt_of_cell HQ5.out) Hqb.out.2).trans HQ5.out)
            have N6 : Hid ((setR r node (-1)).now = r.now) := Lib.hid (by unfold setR; split <;> rfl)
            clear p6 m6
            refine ⟨_, rfl, hK _ _ (cls ⟨HQ6.out, by rw [← N6.out]; exact HA6.out.r.now⟩) ?_⟩
            clear hK K
            repeat (refine mix0 rfl (fun K hK => ?_); go_simp; refine hK _ ?_; clear hK K)
            refine mixEnd ?_
            clear k1 k2 hc1
            rw [eqv_is HQ.out node]
            go_wp2
            go_meet
            exact ⟨by simp, _, _, by rw [N6.out]; omega, Lib.hid (eqv_forget HQ.out node), HA6, HQ6⟩
        case rest =>
          obtain ⟨rfl, s', r', hnow', HQ', HA', HQ1'⟩ := hcut
          obtain ⟨L1, HL1⟩ : ∃ l, Hid (thoseR r' true = l) := ⟨_, Lib.hid rfl⟩
          obtain ⟨L2, HL2⟩ : ∃ l, Hid (thoseR r' false = l) := ⟨_, Lib.hid rfl⟩
          go_wp2_with fail
          refine (Late_any HA'.out.p.p).mono ?_
          rw [eqv_late HQ'.out, HL1.out]
          rintro e w7 ⟨a7, n7, c7, rfl, i7, _, b7⟩
          have HA7 := Lib.hid (HA'.out.to b7)
          have HX7 := Lib.hid (b7.cell (p := ⟨q, 1, none⟩) (lt_of_cell HQ1'.out) |>.trans HQ1'.out)
          have I7 := Lib.hid i7
          clear i7 b7
          go_wp2_with fail
          refine (ThoseR_any HA7.out.r HQ'.out.fine true).mono ?_
          rw [HL1.out]
          rintro e w8 ⟨a8, n8, c8, rfl, i8, _, b8⟩
          have HA8 := Lib.hid (HA7.out.to b8)
          have HX8 := Lib.hid (b8.cell (p := ⟨q, 1, none⟩) (lt_of_cell HX7.out) |>.trans HX7.out)
          have I78 := Lib.hid (I7.out.below b8)
          have I8 := Lib.hid i8
          clear i8 b8
          go_wp2_with fail
          refine (Same_eq _ _ _ _ _ _ _ w8 I78.out I8.out).mono ?_
          rintro e w9 ⟨rfl, b9⟩
          have HA9 := Lib.hid (HA8.out.to b9)
          have HX9 := Lib.hid (b9.cell (p := ⟨q, 1, none⟩) (lt_of_cell HX8.out) |>.trans HX8.out)
          clear b9
          go_wp2_with fail
          refine (Watched_any HA9.out.p.p).mono ?_
          rw [eqv_all HQ'.out, HL2.out]
          rintro e w10 ⟨a10, n10, c10, rfl, i10, _, b10⟩
          have HA10 := Lib.hid (HA9.out.to b10)
          have HX10 := Lib.hid (b10.cell (p := ⟨q, 1, none⟩) (lt_of_cell HX9.out) |>.trans HX9.out)
          have I10 := Lib.hid i10
          clear i10 b10
          go_wp2_with fail
          refine (ThoseR_any HA10.out.r HQ'.out.fine false).mono ?_
          rw [HL2.out]
          rintro e w11 ⟨a11, n11, c11, rfl, i11, _, b11⟩
          have HA11 := Lib.hid (HA10.out.to b11)
          have HX11 := Lib.hid (b11.cell (p := ⟨q, 1, none⟩) (lt_of_cell HX10.out) |>.trans HX10.out)
          have I1011 := Lib.hid (I10.out.below b11)
          have I11 := Lib.hid i11
          clear i11 b11
          go_wp2_with fail
          refine (Same_eq _ _ _ _ _ _ _ w11 I1011.out I11.out).mono ?_
          rintro e w12 ⟨rfl, b12⟩
          have HA12 := Lib.hid (HA11.out.to b12)
          have HX12 := Lib.hid (b12.cell (p := ⟨q, 1, none⟩) (lt_of_cell HX11.out) |>.trans HX11.out)
          clear b12
          go_wp2_with fail
          have k1 : ∀ y : In (Abv w12), y.u.cell? ⟨q, 1, none⟩ = some (.int .i64 node) := fun y => (y.is.cell (p := ⟨q, 1, none⟩) (lt_of_cell HX12.out)).trans HX12.out
          refine wp_region_mix (by kernel_rfl) (Cls (Abv w12)) [(0, 0), (1, 0), (2, 0), (3, 0), (4, 0), (5, 0), (6, 0), (7, 0), (8, 0), (9, 0), (10, 0), (11, 0), (12, 0), (13, 0), (15, 0), (16, 0), (17, 0), (14, 1), (18, 1), (19, 0), (20, 0)] (by kernel_rfl) (cls (Below.refl _ _).drew) ?_
          repeat (refine mix0 rfl (fun K hK => ?_); go_simp; refine hK _ ?_; clear hK K)
          refine mix1 rfl (fun K hK => ?_)
          go_simp
          refine (Quiet_any (HA12.out.to ((Below.refl _ _).drew)).p.p node).mono ?_
          rintro e w13 ⟨rfl, b13⟩
          have B13 : Hid (Below w12.heap.size w12 w13) := Lib.hid ((Below.refl _ _).drew.trans b13)
          clear b13
          refine ⟨_, rfl, hK _ _ (cls B13.out) ?_⟩
          clear hK K
          refine mix1 rfl (fun K hK => ?_)
          go_simp
          refine (QuietR_any (HA12.out.to B13.out).r HQ'.out.fine node).mono ?_
          rw [eqv_quiet HQ'.out]
          rintro e w14 ⟨rfl, b14⟩
          have B14 : Hid (Below w12.heap.size w12 w14) := Lib.hid (bnext B13.out b14)
          clear b14
          refine ⟨_, rfl, hK _ _ (cls B14.out) ?_⟩
          clear hK K
          repeat (refine mix0 rfl (fun K hK => ?_); go_simp; refine hK _ ?_; clear hK K)
          refine mixEnd ?_
          clear k1
          have HA14 := Lib.hid (HA12.out.to B14.out)
          go_wp2
          go_roundw
          case rel => exact ⟨i + 1, s', r', by go_num, by omega, by omega, by omega, HQ', HA14⟩
          case measure => simp [intOf]; omega
    · by_cases h1 : i < len
      · have h1' : (i : Int) < (len : Int) := by omega
        have h2' : ¬ (i : Int) < 200 := by omega
        go_wp2
        go_ret
        exact ⟨rfl, HA.out.p.below⟩
      · have h1' : ¬ (i : Int) < (len : Int) := by omega
        go_wp2
        go_ret
        exact ⟨rfl, HA.out.p.below⟩
theorem own : ownKnob Try.prog.godebug = none := by kernel_rfl
theorem laidOut : laidOutB Try.prog = true := by kernel_rfl
set_option maxRecDepth 100000 in
theorem lifted (os : Os) (started : os.Started) (H : Type) (enc : TypeId × Value → H) :
    ReturnsInHanded {} Try.checked os 3 .any (Rows.pulsePlaysSpec.pre6 enc Try.prog Try.f3 Rows.pulsePlaysRow.domain false) (Rows.pulsePlaysSpec.post enc Try.prog Try.f3 false true false false) := by
  refine returnsInHanded_of_change (C := Try.checked) own started (by kernel_rfl) Try.func3
    (ChangeSpec.witness6 (enc := enc) (C := Try.checked) false ⟨#[], #[.int .i64 0, .slice none 0 0], []⟩ 8 (by kernel_rfl) (by kernel_rfl) (by kernel_rfl) (by kernel_rfl)) ?_
  intro W base args ds gs before hval0 hW hcnd _
  have hval : ∀ (j : Nat) t v, Try.f3.params[j]? = some t → args[j]? = some v → Value.okWide Try.prog W .any base t v := hval0
  have hW' := hW
  obtain ⟨p, q, hA0, hV, rfl, hfz, hnd⟩ := hW
  have hA : DataW.TrodAll enc Try.prog W 0 (fun _ => true) true Try.f3.params.toList args.toList ds p := hA0
  rw [Try.params3] at hA hval
  obtain ⟨v0, vs0, d0, ds0, p0, q0, hargs, rfl, rfl, h0, r0⟩ := trodAll_cons hA
  obtain ⟨v1, vs1, d1, ds1, p1, q1, rfl, rfl, rfl, h1, r1⟩ := trodAll_cons r0
  obtain ⟨rfl, rfl, rfl⟩ := trodAll_nil r1
  obtain rfl : args = #[v0, v1] := by cases args; simp_all
  obtain ⟨a0, rfl, rfl, rfl, w0⟩ := open_int Try.underlying3 (hval 0 3 v0 rfl rfl) h0
  obtain ⟨x1, len1, cap1, a1, rfl, w1, y1⟩ := opens_ops (hval 1 22 v1 rfl rfl) h1
  clear hA0 hval0
  refine (walk a0 x1 len1 cap1 a1 W w0 w1 y1).mono fun e W' ⟨he, bel⟩ => ?_
  subst he
  exact ⟨_, rfl, law_post laidOut (by rw [Try.params3]; decide +kernel) rfl Try.underlying4 rfl hW' (fun _ => rfl) bel⟩
theorem over : Rows.pulsePlaysRow.holds Try.pinned (OpenSpec.ofChange Rows.pulsePlaysSpec) :=
  OpenClaim.holds_of_wide 3 Try.f3 rfl rfl rfl rfl rfl rfl rfl ⟨rfl, rfl, rfl, rfl, rfl⟩ rfl rfl rfl rfl rfl (by kernel_rfl) Try.func3 (by kernel_rfl)
    (of_decide_eq_true (by kernel_rfl)) (by unfold Func.isWrapper; first | (rw [if_pos (by decide +kernel)]; kernel_rfl) | (rw [if_neg (by decide +kernel)]; exact ⟨rfl, rfl⟩))
    (fun os started H enc _ => lifted os started H enc)
theorem proved : Rows.PulsePlaysSaid := over
end Go.Proofs.Ytjmhepipkmbbmaa.pulsePlays
