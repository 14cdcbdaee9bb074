/- PulseLasts: who is heard of once in any limit ticks is never late; who is not any more is, limit ticks later, and stays so: for any limit, gaps, and ticks behind. -/
import Derived.Test.YtjmhepipkmbbmaaRows
import Derived.Test.YtjmhepipkmbbmaaOwn7
import Derived.Test.YtjmhepipkmbbmaaOne7
import Derived.Deep.CutBlock
namespace Go.Proofs.Ytjmhepipkmbbmaa.pulseLasts
open Go.RowKit Go.ChangeShapes Go.WideShapes Go.ChangeAt
open Go.ChangeMaps (open_string shut_string)

set_option maxRecDepth 100000 in
set_option maxHeartbeats 4000000 in
theorem walk (limit : Int) (x : Option Addr) (len cap : Nat) (zs : List Int) (behind : Int) (w : World) (_ : (Lit.int .i64 limit).wf = true) (h : IsInts .i64 w x len zs) (_ : (Lit.int .i64 behind).wf = true) :
    Calls Try.prog 4 #[.int .i64 limit, .slice x len cap, .int .i64 behind] w fun e w' => e = .returned (.bool true) ∧ Below w.heap.size w w' := by
  have Hh := Lib.hid h
  have hlm : len ≤ 9223372036854775807 := by have := h.max; unfold maxLen at this; omega
  clear h
  obtain ⟨lm, Hlm⟩ : ∃ m, Hid (limit.tmod 50 = m) := ⟨_, Lib.hid rfl⟩
  have hl50 : -50 < lm ∧ lm < 50 := by rw [← Hlm.out]; exact tmod_bd limit (by decide)
  obtain ⟨hl1, hl2⟩ := hl50
  obtain ⟨bm, Hbm⟩ : ∃ m, Hid (behind.tmod 101 = m) := ⟨_, Lib.hid rfl⟩
  have hb101 : -101 < bm ∧ bm < 101 := by rw [← Hbm.out]; exact tmod_bd behind (by decide)
  obtain ⟨hb1, hb2⟩ := hb101
  go_enter Try.func4, Try.ntmps4
  go_wp2_with fail
  refine (awake_any _).mono ?_
  rintro e w1 ⟨rfl, hb⟩
  have HB := Lib.hid hb
  clear hb
  go_upto_if 20 with (fail)
  rw [Hlm.out]
  go_cut [8] (fun nv wx => ∃ k : Nat, k < 50 ∧ nv = .int .i64 (k : Int) ∧ w1 = wx)
  case first =>
    by_cases hneg : lm < 0
    · go_wp2
      go_meet
      exact ⟨(-lm).toNat, by omega, by rw [Int.toNat_of_nonneg (by omega)], rfl⟩
    · go_wp2
      go_meet
      exact ⟨lm.toNat, by omega, by rw [Int.toNat_of_nonneg (by omega)], rfl⟩
  case rest =>
    obtain ⟨k, hk, rfl, rfl⟩ := hcut
    obtain ⟨n, Hn⟩ : ∃ n, Hid (k + 1 = n) := ⟨_, Lib.hid rfl⟩
    have hn : 1 ≤ n ∧ n ≤ 50 := by have := Hn.out; omega
    have hnc : (k : Int) + 1 = (n : Int) := by have := Hn.out; omega
    have Hset : Hid (setB (PS.new (n : Int)) 3 false = true) := Lib.hid (new_set n 3 (by decide))
    have Hone : Hid (One 3 n 0 (setP (PS.new (n : Int)) 3 false true)) := Lib.hid (one_new n 3 (by decide))
    go_wp2_with fail
    clear hnc
    refine (New_at HB.out (n : Int)).mono ?_
    rintro e w2 ⟨b, rfl, h2⟩
    have A2 := Lib.hid h2
    clear h2
    go_wp2_with fail
    refine (Watch_at A2.out 3).mono ?_
    rw [Hset.out]
    rintro e w3 ⟨rfl, h3⟩
    have A3 := Lib.hid h3
    clear h3
    go_upto_block 0 with (fail)
    go_cut [10] (fun _ wx => ∃ s : PS, Hid (One 3 n 0 s) ∧ Hid (At w wx b s))
    case first =>
      go_wp2
      go_loopw [10] (fun iv wr => ∃ (i : Nat) (s : PS), iv = .int .i64 (i : Int) ∧ i ≤ len ∧ Hid (One 3 n 0 s) ∧ Hid (At w wr b s)) (fun iv _ => len - (intOf iv).toNat)
      case atStart => exact ⟨0, _, rfl, Nat.zero_le _, Hone, A3⟩
      case round =>
        obtain ⟨i, s, rfl, hi, HO, HA⟩ := hrel
        by_cases hlt : i < len ∧ i < 20
        · obtain ⟨h1, h2⟩ := hlt
          have h1' : (i : Int) < (len : Int) := by omega
          have h2' : (i : Int) < 20 := by omega
          obtain ⟨g, o, rfl, hc⟩ := Hh.out.cells (by omega)
          have hc1 := (HA.out.below.cell (p := ⟨g, o + i, none⟩) (lt_of_cell (hc i h1))).trans (hc i h1)
          obtain ⟨z, Hz⟩ : ∃ z, Hid (zs.getD i 0 = z) := ⟨_, Lib.hid rfl⟩
          rw [Hz.out] at hc1
          clear hc
          obtain ⟨gm, Hgm⟩ : ∃ m, Hid (z.tmod (n : Int) = m) := ⟨_, Lib.hid rfl⟩
          have hg0 : -(n : Int) < gm ∧ gm < (n : Int) := by rw [← Hgm.out]; exact tmod_bd z (by omega)
          obtain ⟨hg1, hg2⟩ := hg0
          go_upto_if 51 with (fail)
          rw [Hgm.out]
          go_cut [11] (fun gv wx => ∃ gg : Nat, gg < n ∧ gv = .int .i64 (gg : Int) ∧ wr = wx)
          case first =>
            by_cases hneg : gm < 0
            · go_wp2
              go_meet
              exact ⟨(-gm).toNat, by omega, by rw [Int.toNat_of_nonneg (by omega)], rfl⟩
            · go_wp2
              go_meet
              exact ⟨gm.toNat, by omega, by rw [Int.toNat_of_nonneg (by omega)], rfl⟩
          case rest =>
            obtain ⟨gg, hgg, rfl, rfl⟩ := hcut
            clear hc1
            go_wp2
            go_loopw [12] (fun tv wr' => ∃ (t : Nat) (s' : PS), tv = .int .i64 (t : Int) ∧ t ≤ gg ∧ Hid (One 3 n t s') ∧ Hid (At w wr' b s')) (fun tv _ => gg - (intOf tv).toNat)
            case atStart => exact ⟨0, s, rfl, Nat.zero_le _, HO, HA⟩
            case round =>
              obtain ⟨t, s', rfl, ht, HO', HA'⟩ := hrel
              by_cases htg : t < gg
              · have htg' : (t : Int) < (gg : Int) := by omega
                go_wp2_with fail
                refine (Tick_at HA'.out).mono ?_
                rintro e w5 ⟨rfl, h5⟩
                have HO5 := Lib.hid (one_tick HO'.out hn.1 (by omega) (by decide))
                have HA5 := Lib.hid h5
                clear h5
                have hl5 : (lateL (tickP s')).length = 0 := by rw [one_late HO5.out hn.1 (by omega) (by decide), if_neg (by omega)]
                go_wp2_with fail
                refine (Late_at HA5.out).mono ?_
                rw [hl5]
                rintro e w6 ⟨aa, cc, rfl, _, _, h6⟩
                have HA6 := Lib.hid h6
                clear h6 hl5
                go_wp2
                go_roundw
                case rel => exact ⟨t + 1, _, by go_num, by omega, HO5, HA6⟩
                case measure => simp [intOf]; omega
              · obtain rfl : t = gg := by omega
                have Hset' : Hid (setB s' 3 true = true) := Lib.hid (one_setB HO'.out (by decide))
                have HO5 : Hid (One 3 n 0 (setP s' 3 true true)) := Lib.hid (one_heard HO'.out (by decide))
                go_wp2_with fail
                refine (Heard_at HA'.out 3).mono ?_
                rw [Hset'.out]
                rintro e w5 ⟨rfl, h5⟩
                have HA5 := Lib.hid h5
                clear h5
                go_wp2
                go_roundw
                case rel => exact ⟨i + 1, _, by go_num, by omega, HO5, HA5⟩
                case measure => simp [intOf]; omega
        · by_cases h1 : i < len
          · have h1' : (i : Int) < (len : Int) := by omega
            have h2' : ¬ (i : Int) < 20 := by omega
            go_wp2
            go_meet
            exact ⟨s, HO, HA⟩
          · have h1' : ¬ (i : Int) < (len : Int) := by omega
            go_wp2
            go_meet
            exact ⟨s, HO, HA⟩
    case rest =>
      obtain ⟨s, HO, HA⟩ := hcut
      go_upto_if 71 with (fail)
      rw [Hbm.out]
      go_cut [13] (fun mv wx => ∃ m : Nat, m ≤ 100 ∧ mv = .int .i64 (m : Int) ∧ wc = wx)
      case first =>
        by_cases hneg : bm < 0
        · go_wp2
          go_meet
          exact ⟨(-bm).toNat, by omega, by rw [Int.toNat_of_nonneg (by omega)], rfl⟩
        · go_wp2
          go_meet
          exact ⟨bm.toNat, by omega, by rw [Int.toNat_of_nonneg (by omega)], rfl⟩
      case rest =>
        obtain ⟨m, hm, rfl, rfl⟩ := hcut
        go_wp2
        go_loopw [14, 15] (fun tv _ wr => ∃ (t : Nat) (s' : PS), tv = .int .i64 ((t + 1 : Nat) : Int) ∧ t ≤ m ∧ Hid (One 3 n t s') ∧ Hid (At w wr b s')) (fun tv _ _ => 101 - (intOf tv).toNat)
        case atStart => exact ⟨0, s, rfl, Nat.zero_le _, HO, HA⟩
        case round =>
          obtain ⟨t, s', rfl, ht, HO', HA'⟩ := hrel
          by_cases htm : t + 1 ≤ m
          · obtain ⟨t1, Ht1⟩ : ∃ t1, Hid (t + 1 = t1) := ⟨_, Lib.hid rfl⟩
            rw [Ht1.out] at htm ⊢
            have htm' : (t1 : Int) ≤ (m : Int) := by omega
            go_wp2_with fail
            refine (Tick_at HA'.out).mono ?_
            rintro e w5 ⟨rfl, h5⟩
            have HO5 : Hid (One 3 n t1 (tickP s')) := Lib.hid (by rw [← Ht1.out]; exact one_tick HO'.out hn.1 (by omega) (by decide))
            have HA5 := Lib.hid h5
            clear h5
            have hl5 : (lateL (tickP s')).length = if n ≤ t1 then 1 else 0 := one_late HO5.out hn.1 (by omega) (by decide)
            have Hq5 : Hid (quietP (tickP s') 3 = ((min t1 n : Nat) : Int)) := Lib.hid (one_quiet HO5.out (by decide))
            obtain ⟨q, Hq⟩ : ∃ q, Hid (min t1 n = q) := ⟨_, Lib.hid rfl⟩
            rw [Hq.out] at Hq5
            have hqn : q ≤ n := by have := Hq.out; omega
            by_cases hnt : n ≤ t1
            · rw [if_pos hnt] at hl5
              have hnt' : (n : Int) ≤ (t1 : Int) := by omega
              go_wp2_with fail
              refine (Late_at HA5.out).mono ?_
              rw [hl5]
              rintro e w6 ⟨aa, cc, rfl, _, _, h6⟩
              have HA6 := Lib.hid h6
              clear h6 hl5
              go_wp2_with fail
              refine (Quiet_at HA6.out 3).mono ?_
              rw [Hq5.out]
              rintro e w7 ⟨rfl, h7⟩
              have HA7 := Lib.hid h7
              clear h7
              go_wp2
              go_roundw
              case rel => exact ⟨t1, _, by go_num, by omega, HO5, HA7⟩
              case measure => simp [intOf]; omega
            · rw [if_neg hnt] at hl5
              have hnt' : ¬ (n : Int) ≤ (t1 : Int) := by omega
              go_wp2_with fail
              refine (Late_at HA5.out).mono ?_
              rw [hl5]
              rintro e w6 ⟨aa, cc, rfl, _, _, h6⟩
              have HA6 := Lib.hid h6
              clear h6 hl5
              go_wp2_with fail
              refine (Quiet_at HA6.out 3).mono ?_
              rw [Hq5.out]
              rintro e w7 ⟨rfl, h7⟩
              have HA7 := Lib.hid h7
              clear h7
              go_wp2
              go_roundw
              case rel => exact ⟨t1, _, by go_num, by omega, HO5, HA7⟩
              case measure => simp [intOf]; omega
          · obtain ⟨t1, Ht1⟩ : ∃ t1, Hid (t + 1 = t1) := ⟨_, Lib.hid rfl⟩
            rw [Ht1.out] at htm ⊢
            have htm' : ¬ (t1 : Int) ≤ (m : Int) := by omega
            go_wp2
            go_ret
            exact ⟨rfl, HA'.out.below⟩
theorem own : ownKnob Try.prog.godebug = none := by kernel_rfl
theorem laidOut : laidOutB Try.prog = true := by kernel_rfl
set_option maxRecDepth 100000 in
theorem lifted (os : Os) (started : os.Started) (H : Type) (enc : TypeId × Value → H) :
    ReturnsInHanded {} Try.checked os 4 .any (Rows.pulseLastsSpec.pre6 enc Try.prog Try.f4 Rows.pulseLastsRow.domain false) (Rows.pulseLastsSpec.post enc Try.prog Try.f4 false true false false) := by
  refine returnsInHanded_of_change (C := Try.checked) own started (by kernel_rfl) Try.func4
    (ChangeSpec.witness6 (enc := enc) (C := Try.checked) false ⟨#[], #[.int .i64 0, .slice none 0 0, .int .i64 0], []⟩ 8 (by kernel_rfl) (by kernel_rfl) (by kernel_rfl) (by kernel_rfl)) ?_
  intro W base args ds gs before hval0 hW hcnd _
  have hval : ∀ (j : Nat) t v, Try.f4.params[j]? = some t → args[j]? = some v → Value.okWide Try.prog W .any base t v := hval0
  have hW' := hW
  obtain ⟨p, q, hA0, hV, rfl, hfz, hnd⟩ := hW
  have hA : DataW.TrodAll enc Try.prog W 0 (fun _ => true) true Try.f4.params.toList args.toList ds p := hA0
  rw [Try.params4] at hA hval
  obtain ⟨v0, vs0, d0, ds0, p0, q0, hargs, rfl, rfl, h0, r0⟩ := trodAll_cons hA
  obtain ⟨v1, vs1, d1, ds1, p1, q1, rfl, rfl, rfl, h1, r1⟩ := trodAll_cons r0
  obtain ⟨v2, vs2, d2, ds2, p2, q2, rfl, rfl, rfl, h2, r2⟩ := trodAll_cons r1
  obtain ⟨rfl, rfl, rfl⟩ := trodAll_nil r2
  obtain rfl : args = #[v0, v1, v2] := by cases args; simp_all
  obtain ⟨a0, rfl, rfl, rfl, w0⟩ := open_int Try.underlying3 (hval 0 3 v0 rfl rfl) h0
  obtain ⟨x1, len1, cap1, a1, rfl, w1⟩ := opens_ints Try.underlying36 Try.underlying3 (by kernel_rfl) (hval 1 36 v1 rfl rfl) h1
  obtain ⟨a2, rfl, rfl, rfl, w2⟩ := open_int Try.underlying3 (hval 2 3 v2 rfl rfl) h2
  clear hA0 hval0
  refine (walk a0 x1 len1 cap1 a1 a2 W w0 w1 w2).mono fun e W' ⟨he, bel⟩ => ?_
  subst he
  exact ⟨_, rfl, law_post laidOut (by rw [Try.params4]; decide +kernel) rfl Try.underlying4 rfl hW' (fun _ => rfl) bel⟩
theorem over : Rows.pulseLastsRow.holds Try.pinned (OpenSpec.ofChange Rows.pulseLastsSpec) :=
  OpenClaim.holds_of_wide 4 Try.f4 rfl rfl rfl rfl rfl rfl rfl ⟨rfl, rfl, rfl, rfl, rfl⟩ rfl rfl rfl rfl rfl (by kernel_rfl) Try.func4 (by kernel_rfl)
    (of_decide_eq_true (by kernel_rfl)) (by unfold Func.isWrapper; first | (rw [if_pos (by decide +kernel)]; kernel_rfl) | (rw [if_neg (by decide +kernel)]; exact ⟨rfl, rfl⟩))
    (fun os started H enc _ => lifted os started H enc)
theorem proved : Rows.PulseLastsSaid := over
end Go.Proofs.Ytjmhepipkmbbmaa.pulseLasts
