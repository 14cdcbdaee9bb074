/- PulseCounts: how long ago a node was heard of is how many ticks there were since, as far as the limit goes: for any limit, any ticks and how many of them behind the last time. -/
import Derived.Test.YtjmhepipkmbbmaaRows
import Derived.Test.YtjmhepipkmbbmaaOwn7
import Derived.Test.YtjmhepipkmbbmaaOne7
import Derived.Deep.CutBlock
namespace Go.Proofs.Ytjmhepipkmbbmaa.pulseCounts
open Go.RowKit Go.ChangeShapes Go.WideShapes Go.ChangeAt
open Go.ChangeMaps (open_string shut_string)

set_option maxRecDepth 100000 in
set_option maxHeartbeats 4000000 in
theorem walk (limit ticks since : Int) (w : World) (_ : (Lit.int .i64 limit).wf = true) (_ : (Lit.int .i64 ticks).wf = true) (_ : (Lit.int .i64 since).wf = true) :
    Calls Try.prog 7 #[.int .i64 limit, .int .i64 ticks, .int .i64 since] w fun e w' => e = .returned (.bool true) ∧ Below w.heap.size w w' := by
  obtain ⟨lm, Hlm⟩ : ∃ m, Hid (limit.tmod 50 = m) := ⟨_, Lib.hid rfl⟩
  have hl50 : -50 < lm ∧ lm < 50 := by rw [← Hlm.out]; exact tmod_bd limit (by decide)
  obtain ⟨hl1, hl2⟩ := hl50
  obtain ⟨bm, Hbm⟩ : ∃ m, Hid (ticks.tmod 101 = m) := ⟨_, Lib.hid rfl⟩
  have hb101 : -101 < bm ∧ bm < 101 := by rw [← Hbm.out]; exact tmod_bd ticks (by decide)
  obtain ⟨hb1, hb2⟩ := hb101
  go_enter Try.func7, Try.ntmps7
  go_wp2_with fail
  refine (awake_any _).mono ?_
  rintro e w1 ⟨rfl, hb⟩
  have HB := Lib.hid hb
  clear hb
  go_upto_if 18 with (fail)
  rw [Hlm.out]
  go_cut [8] (fun nv wx => ∃ k : Nat, k < 50 ∧ nv = .int .i64 (k : Int) ∧ w1 = wx)
  case first =>
    by_cases hneg : lm < 0
    · go_wp2
      go_meet
      exact ⟨(-lm).toNat, by omega, by rw [Int.toNat_of_nonneg (by omega)], rfl⟩
    · go_wp2
      go_meet
      exact ⟨lm.toNat, by omega, by rw [Int.toNat_of_nonneg (by omega)], rfl⟩
  case rest =>
    obtain ⟨k, hk, rfl, rfl⟩ := hcut
    obtain ⟨n, Hn⟩ : ∃ n, Hid (k + 1 = n) := ⟨_, Lib.hid rfl⟩
    have hn : 1 ≤ n ∧ n ≤ 50 := by have := Hn.out; omega
    have hnc : (k : Int) + 1 = (n : Int) := by have := Hn.out; omega
    have Hset : Hid (setB (PS.new (n : Int)) 5 false = true) := Lib.hid (new_set n 5 (by decide))
    have Hone : Hid (One 5 n 0 (setP (PS.new (n : Int)) 5 false true)) := Lib.hid (one_new n 5 (by decide))
    go_upto_if 26 with (fail)
    clear hnc
    rw [Hbm.out]
    go_cut [9] (fun mv wx => ∃ m : Nat, m ≤ 100 ∧ mv = .int .i64 (m : Int) ∧ w1 = wx)
    case first =>
      by_cases hneg : bm < 0
      · go_wp2
        go_meet
        exact ⟨(-bm).toNat, by omega, by rw [Int.toNat_of_nonneg (by omega)], rfl⟩
      · go_wp2
        go_meet
        exact ⟨bm.toNat, by omega, by rw [Int.toNat_of_nonneg (by omega)], rfl⟩
    case rest =>
      obtain ⟨m, hm, rfl, rfl⟩ := hcut
      obtain ⟨sm, Hsm⟩ : ∃ z, Hid (since.tmod ((m : Int) + 1) = z) := ⟨_, Lib.hid rfl⟩
      have hs0 : -((m : Int) + 1) < sm ∧ sm < (m : Int) + 1 := by rw [← Hsm.out]; exact tmod_bd since (by omega)
      obtain ⟨hs1, hs2⟩ := hs0
      go_upto_if 34 with (fail)
      rw [Hsm.out]
      go_cut [10] (fun mv wx => ∃ l : Nat, l ≤ m ∧ mv = .int .i64 (l : Int) ∧ w1 = wx)
      case first =>
        by_cases hneg : sm < 0
        · go_wp2
          go_meet
          exact ⟨(-sm).toNat, by omega, by rw [Int.toNat_of_nonneg (by omega)], rfl⟩
        · go_wp2
          go_meet
          exact ⟨sm.toNat, by omega, by rw [Int.toNat_of_nonneg (by omega)], rfl⟩
      case rest =>
        obtain ⟨l, hl, rfl, rfl⟩ := hcut
        go_wp2_with fail
        refine (New_at HB.out (n : Int)).mono ?_
        rintro e w2 ⟨b, rfl, h2⟩
        have A2 := Lib.hid h2
        clear h2
        go_wp2_with fail
        refine (Watch_at A2.out 5).mono ?_
        rw [Hset.out]
        rintro e w3 ⟨rfl, h3⟩
        have A3 := Lib.hid h3
        clear h3
        go_wp2
        go_loopw [12] (fun iv wr => ∃ (i : Nat) (s : PS), iv = .int .i64 (i : Int) ∧ i ≤ m ∧ Hid (One 5 n (if l = 0 then i else if i ≤ m - l then i else i - (m - l)) s) ∧ Hid (At w wr b s)) (fun iv _ => m - (intOf iv).toNat)
        case atStart => exact ⟨0, _, rfl, Nat.zero_le _, by rw [if_pos (Nat.zero_le _)]; split <;> exact Hone, A3⟩
        case round =>
          obtain ⟨i, s, rfl, hi, HO, HA⟩ := hrel
          by_cases him : i < m
          · have him' : (i : Int) < (m : Int) := by omega
            by_cases hil : i = m - l
            · have hil' : ((i : Int) == (m : Int) - (l : Int)) = true := beq_yes (by omega)
              have Hset5 : Hid (setB s 5 true = true) := Lib.hid (one_setB HO.out (by decide))
              have HO5 : Hid (One 5 n 0 (setP s 5 true true)) := Lib.hid (one_heard HO.out (by decide))
              go_wp2_with fail
              refine (Heard_at HA.out 5).mono ?_
              rw [Hset5.out]
              rintro e w5 ⟨rfl, h5⟩
              have HA5 := Lib.hid h5
              clear h5
              go_wp2_with fail
              refine (Tick_at HA5.out).mono ?_
              rintro e w6 ⟨rfl, h6⟩
              have HO6 := Lib.hid (one_tick HO5.out hn.1 (by omega) (by decide))
              have HA6 := Lib.hid h6
              clear h6
              go_wp2
              go_roundw
              case rel => exact ⟨i + 1, _, by go_num, by omega, by rw [if_neg (by omega), if_neg (by omega), show i + 1 - (m - l) = 0 + 1 by omega]; exact HO6, HA6⟩
              case measure => simp [intOf]; omega
            · have hil' : ((i : Int) == (m : Int) - (l : Int)) = false := beq_no (by omega)
              go_wp2_with fail
              refine (Tick_at HA.out).mono ?_
              rintro e w6 ⟨rfl, h6⟩
              have HO6 := Lib.hid (one_tick HO.out hn.1 (by omega) (by decide))
              have HA6 := Lib.hid h6
              clear h6
              go_wp2
              go_roundw
              case rel =>
                refine ⟨i + 1, _, by go_num, by omega, ?_, HA6⟩
                have e1 : (if l = 0 then i + 1 else if i + 1 ≤ m - l then i + 1 else i + 1 - (m - l)) = (if l = 0 then i else if i ≤ m - l then i else i - (m - l)) + 1 := by
                  split
                  · rfl
                  · split <;> split <;> omega
                rw [e1]
                exact HO6
              case measure => simp [intOf]; omega
          · obtain rfl : i = m := by omega
            obtain ⟨c, Hc⟩ : ∃ c, Hid (((l : Int) == 0) = c) := ⟨_, Lib.hid rfl⟩
            go_upto_if 65 with (fail)
            rw [Hc.out]
            go_cut [13] (fun v wx => ∃ s' : PS, v = .int .i64 (l : Int) ∧ Hid (One 5 n l s') ∧ Hid (At w wx b s'))
            case first =>
              cases c with
              | true =>
                have Hl0 : Hid (l = 0) := Lib.hid (by have := Hc.out; simp at this; omega)
                have Hset5 : Hid (setB s 5 true = true) := Lib.hid (one_setB HO.out (by decide))
                have HO5 : Hid (One 5 n l (setP s 5 true true)) := Lib.hid (by rw [Hl0.out]; exact one_heard HO.out (by decide))
                go_wp2_with fail
                refine (Heard_at HA.out 5).mono ?_
                rw [Hset5.out]
                rintro e w5 ⟨rfl, h5⟩
                have HA5 := Lib.hid h5
                clear h5
                go_wp2
                go_meet
                exact ⟨_, by rw [Hl0.out]; rfl, HO5, HA5⟩
              | false =>
                have hl0 : ¬ l = 0 := by have := Hc.out; simp at this; omega
                rw [if_neg hl0, if_neg (by omega), show i - (i - l) = l by omega] at HO
                clear hl0
                go_wp2
                go_meet
                exact ⟨_, rfl, HO, HA⟩
            case rest =>
              obtain ⟨s', rfl, HO', HA'⟩ := hcut
              go_upto_if 70 with (fail)
              go_cut [13] (fun v wx => v = .int .i64 ((min l n : Nat) : Int) ∧ wc = wx)
              case first =>
                by_cases hln : n < l
                · have hln' : (n : Int) < (l : Int) := by omega
                  go_wp2
                  go_meet
                  exact ⟨by rw [show min l n = n by omega], rfl⟩
                · have hln' : ¬ (n : Int) < (l : Int) := by omega
                  go_wp2
                  go_meet
                  exact ⟨by rw [show min l n = l by omega], rfl⟩
              case rest =>
                obtain ⟨rfl, rfl⟩ := hcut
                have Hq := Lib.hid (one_quiet HO'.out (by decide : 5 < 8))
                have Hf : Hid (setB s' 5 true = true) := Lib.hid (one_setB HO'.out (by decide))
                have Hg := Lib.hid (one_forget HO'.out (by decide : 5 < 8))
                obtain ⟨q, Hqq⟩ : ∃ q, Hid (min l n = q) := ⟨_, Lib.hid rfl⟩
                rw [Hqq.out] at Hq ⊢
                go_wp2_with fail
                refine (Quiet_at HA'.out 5).mono ?_
                rw [show quietP s' 5 = (q : Int) from Hq.out]
                rintro e w7 ⟨rfl, h7⟩
                have HA7 := Lib.hid h7
                clear h7
                go_wp2_with fail
                refine (Forget_at HA7.out 5).mono ?_
                rw [Hf.out]
                rintro e w8 ⟨rfl, h8⟩
                have HA8 := Lib.hid h8
                clear h8
                go_wp2_with fail
                refine (Quiet_at HA8.out 5).mono ?_
                rw [show quietP (setP s' 5 true false) 5 = -1 from Hg.out.1]
                rintro e w9 ⟨rfl, h9⟩
                have HA9 := Lib.hid h9
                clear h9
                go_wp2_with fail
                refine (Watched_at HA9.out).mono ?_
                rw [show allL (setP s' 5 true false) = [] from Hg.out.2]
                rintro e w10 ⟨a10, c10, rfl, _, _, h10⟩
                have HA10 := Lib.hid h10.below
                clear h10
                go_wp2
                go_ret
                exact ⟨rfl, HA10.out⟩
theorem own : ownKnob Try.prog.godebug = none := by kernel_rfl
theorem laidOut : laidOutB Try.prog = true := by kernel_rfl
set_option maxRecDepth 100000 in
theorem lifted (os : Os) (started : os.Started) (H : Type) (enc : TypeId × Value → H) :
    ReturnsInHanded {} Try.checked os 7 .any (Rows.pulseCountsSpec.pre6 enc Try.prog Try.f7 Rows.pulseCountsRow.domain false) (Rows.pulseCountsSpec.post enc Try.prog Try.f7 false true false false) := by
  refine returnsInHanded_of_change (C := Try.checked) own started (by kernel_rfl) Try.func7
    (ChangeSpec.witness6 (enc := enc) (C := Try.checked) false ⟨#[], #[.int .i64 0, .int .i64 0, .int .i64 0], []⟩ 8 (by kernel_rfl) (by kernel_rfl) (by kernel_rfl) (by kernel_rfl)) ?_
  intro W base args ds gs before hval0 hW hcnd _
  have hval : ∀ (j : Nat) t v, Try.f7.params[j]? = some t → args[j]? = some v → Value.okWide Try.prog W .any base t v := hval0
  have hW' := hW
  obtain ⟨p, q, hA0, hV, rfl, hfz, hnd⟩ := hW
  have hA : DataW.TrodAll enc Try.prog W 0 (fun _ => true) true Try.f7.params.toList args.toList ds p := hA0
  rw [Try.params7] at hA hval
  obtain ⟨v0, vs0, d0, ds0, p0, q0, hargs, rfl, rfl, h0, r0⟩ := trodAll_cons hA
  obtain ⟨v1, vs1, d1, ds1, p1, q1, rfl, rfl, rfl, h1, r1⟩ := trodAll_cons r0
  obtain ⟨v2, vs2, d2, ds2, p2, q2, rfl, rfl, rfl, h2, r2⟩ := trodAll_cons r1
  obtain ⟨rfl, rfl, rfl⟩ := trodAll_nil r2
  obtain rfl : args = #[v0, v1, v2] := by cases args; simp_all
  obtain ⟨a0, rfl, rfl, rfl, w0⟩ := open_int Try.underlying3 (hval 0 3 v0 rfl rfl) h0
  obtain ⟨a1, rfl, rfl, rfl, w1⟩ := open_int Try.underlying3 (hval 1 3 v1 rfl rfl) h1
  obtain ⟨a2, rfl, rfl, rfl, w2⟩ := open_int Try.underlying3 (hval 2 3 v2 rfl rfl) h2
  clear hA0 hval0
  refine (walk a0 a1 a2 W w0 w1 w2).mono fun e W' ⟨he, bel⟩ => ?_
  subst he
  exact ⟨_, rfl, law_post laidOut (by rw [Try.params7]; decide +kernel) rfl Try.underlying4 rfl hW' (fun _ => rfl) bel⟩
theorem over : Rows.pulseCountsRow.holds Try.pinned (OpenSpec.ofChange Rows.pulseCountsSpec) :=
  OpenClaim.holds_of_wide 7 Try.f7 rfl rfl rfl rfl rfl rfl rfl ⟨rfl, rfl, rfl, rfl, rfl⟩ rfl rfl rfl rfl rfl (by kernel_rfl) Try.func7 (by kernel_rfl)
    (of_decide_eq_true (by kernel_rfl)) (by unfold Func.isWrapper; first | (rw [if_pos (by decide +kernel)]; kernel_rfl) | (rw [if_neg (by decide +kernel)]; exact ⟨rfl, rfl⟩))
    (fun os started H enc _ => lifted os started H enc)
theorem proved : Rows.PulseCountsSaid := over
end Go.Proofs.Ytjmhepipkmbbmaa.pulseCounts
