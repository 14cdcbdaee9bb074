/- PulseApart: what is heard of other nodes changes nothing of the first one, for any calls. -/
import Derived.Test.YtjmhepipkmbbmaaRows
import Derived.Test.YtjmhepipkmbbmaaOwn7
import Derived.Test.YtjmhepipkmbbmaaOps07
import Derived.Deep.CutBlock
namespace Go.Proofs.Ytjmhepipkmbbmaa.pulseApart
open Go.RowKit Go.ChangeShapes Go.WideShapes Go.ChangeAt
open Go.ChangeMaps (open_string shut_string)

def rel (s : PS) (t : Nat) : Prop := s.wt 0 = true ∧ s.tk 0 = (t : Int) ∧ s.lim = 30
theorem rel_set {s : PS} {t : Nat} (h : rel s t) (k : Nat) (hk : k ≤ 7) (want x : Bool) : rel (setP s (1 + (k : Int)) want x) t := by
  unfold setP
  split
  · have e : (1 + (k : Int)).toNat = k + 1 := by omega
    exact ⟨by simp [PS.put, e, h.1], by simp [PS.put, e, h.2.1], h.2.2⟩
  · exact h
theorem rel_tick {s : PS} {t : Nat} (h : rel s t) (ht : t ≤ 30) : rel (tickP s) (if t < 30 then t + 1 else t) := by
  refine ⟨h.1, ?_, h.2.2⟩
  simp only [tickP, tickTo, h.2.1, h.2.2, mostP]
  by_cases h30 : t < 30
  · simp [h30]; omega
  · simp [h30]; omega
theorem rel_quiet {s : PS} {t : Nat} (h : rel s t) : quietP s 0 = (t : Int) := by
  have := quietP_in s (k := 0) (by decide)
  rw [if_pos h.1, h.2.1] at this
  exact this
set_option maxRecDepth 100000 in
set_option maxHeartbeats 2000000 in
theorem walk (x : Option Addr) (len cap : Nat) (vs : Nat → OpV) (w : World) (h : IsOps w x len vs) (_hc : len ≤ cap) :
    Calls Try.prog 5 #[.slice x len cap] w fun e w' => e = .returned (.bool true) ∧ Below w.heap.size w w' := by
  have Hh := Lib.hid h
  have hlm : len ≤ 9223372036854775807 := by have := h.max; unfold maxLen at this; omega
  clear h
  have R0 : Hid (rel (setP (PS.new 30) 0 false true) 0) := Lib.hid ⟨by decide, by decide, rfl⟩
  have H0 : Hid (setB (PS.new 30) 0 false = true) := Lib.hid (by decide)
  go_enter Try.func5, Try.ntmps5
  go_wp2_with fail
  refine (awake_any _).mono ?_
  rintro e w1 ⟨rfl, hb⟩
  have HB := Lib.hid hb
  clear hb
  go_wp2_with fail
  refine (New_at HB.out 30).mono ?_
  rintro e w2 ⟨b, rfl, h2⟩
  have A2 := Lib.hid h2
  clear h2 HB
  go_wp2_with fail
  refine (Watch_at A2.out 0).mono ?_
  rw [H0.out]
  rintro e w3 ⟨rfl, h3⟩
  have A3 := Lib.hid h3
  clear h3
  go_wp2
  go_loopw [5, 6] (fun tv iv wr => ∃ (i t : Nat) (s : PS), iv = .int .i64 (i : Int) ∧ i ≤ len ∧ tv = .int .i64 (t : Int) ∧ t ≤ 30 ∧ Hid (rel s t) ∧ Hid (At w wr b s)) (fun _ iv _ => len - (intOf iv).toNat)
  case atStart => exact ⟨0, 0, _, rfl, Nat.zero_le _, rfl, by omega, R0, A3⟩
  case round =>
    obtain ⟨i, t, s, rfl, hi, rfl, ht, HR, HA⟩ := hrel
    by_cases hlt : i < len ∧ i < 60
    · obtain ⟨h1, h2⟩ := hlt
      have h1' : (i : Int) < (len : Int) := by omega
      have h2' : (i : Int) < 60 := by omega
      obtain ⟨g, o, rfl, hop⟩ := Hh.out.at HA.out.below h1
      obtain ⟨⟨kind, node⟩, hvs⟩ : ∃ v, vs i = v := ⟨_, rfl⟩
      rw [hvs] at hop
      obtain ⟨c0, c1, wk, wn⟩ := hop
      simp only at c0 c1 wk wn
      obtain ⟨k, Hk, hk⟩ := and_small node 7 (.inr rfl)
      have Hk' : bits .and .i64 node 7 = (k : Int) := Hk.out
      go_upto_block 2 with (fail)
      obtain ⟨w4, Hw4⟩ : ∃ w4, Hid (wr.alloc (.cells #[.int .i64 kind, .int .i64 node] 29) = w4) := ⟨_, Lib.hid rfl⟩
      have HA4 : Hid (At w w4 b s) := Lib.hid (by rw [← Hw4.out]; exact HA.out.to (balloc (Below.refl _ _) _))
      rw [show wr.alloc (.cells #[.int .i64 kind, .int .i64 node] 29) = w4 from Hw4.out]
      obtain ⟨r, Hr⟩ : ∃ r, Hid (kind.tmod 4 = r) := ⟨_, Lib.hid rfl⟩
      rw [Hr.out]
      go_cut [5] (fun tv wx => ∃ (t' : Nat) (s' : PS), tv = .int .i64 (t' : Int) ∧ (t' = t ∨ t' = t + 1) ∧ t' ≤ 30 ∧ Hid (rel s' t') ∧ Hid (At w wx b s'))
      case first =>
        by_cases r0 : r = 0
        · subst r0
          go_wp2_with fail
          refine (Heard_at HA4.out (1 + (k : Int))).mono ?_
          rintro e w5 ⟨rfl, h5⟩
          have HA5 := Lib.hid h5
          clear h5
          go_wp2
          go_meet
          exact ⟨t, _, rfl, .inl rfl, ht, Lib.hid (rel_set HR.out k hk _ _), HA5⟩
        · have q0 : (r == 0) = false := beq_no r0
          by_cases r1 : r = 1 ∨ r = -1
          · have q1 : (r == 1) = true ∨ (r == 1) = false ∧ (r == -1) = true := by
              rcases r1 with rfl | rfl
              · exact .inl rfl
              · exact .inr ⟨rfl, rfl⟩
            rcases r1 with rfl | rfl
            · go_wp2_with fail
              refine (Watch_at HA4.out (1 + (k : Int))).mono ?_
              rintro e w5 ⟨rfl, h5⟩
              have HA5 := Lib.hid h5
              clear h5
              go_wp2
              go_meet
              exact ⟨t, _, rfl, .inl rfl, ht, Lib.hid (rel_set HR.out k hk _ _), HA5⟩
            · go_wp2_with fail
              refine (Watch_at HA4.out (1 + (k : Int))).mono ?_
              rintro e w5 ⟨rfl, h5⟩
              have HA5 := Lib.hid h5
              clear h5
              go_wp2
              go_meet
              exact ⟨t, _, rfl, .inl rfl, ht, Lib.hid (rel_set HR.out k hk _ _), HA5⟩
          · have q1 : (r == 1) = false := beq_no (fun e => r1 (.inl e))
            have q1' : (r == -1) = false := beq_no (fun e => r1 (.inr e))
            by_cases r2 : r = 2 ∨ r = -2
            · rcases r2 with rfl | rfl
              · go_wp2_with fail
                refine (Forget_at HA4.out (1 + (k : Int))).mono ?_
                rintro e w5 ⟨rfl, h5⟩
                have HA5 := Lib.hid h5
                clear h5
                go_wp2
                go_meet
                exact ⟨t, _, rfl, .inl rfl, ht, Lib.hid (rel_set HR.out k hk _ _), HA5⟩
              · go_wp2_with fail
                refine (Forget_at HA4.out (1 + (k : Int))).mono ?_
                rintro e w5 ⟨rfl, h5⟩
                have HA5 := Lib.hid h5
                clear h5
                go_wp2
                go_meet
                exact ⟨t, _, rfl, .inl rfl, ht, Lib.hid (rel_set HR.out k hk _ _), HA5⟩
            · have q2 : (r == 2) = false := beq_no (fun e => r2 (.inl e))
              have q2' : (r == -2) = false := beq_no (fun e => r2 (.inr e))
              go_wp2_with fail
              refine (Tick_at HA4.out).mono ?_
              rintro e w5 ⟨rfl, h5⟩
              have HA5 := Lib.hid h5
              clear h5
              have HR5 := Lib.hid (rel_tick HR.out ht)
              by_cases h30 : t < 30
              · rw [if_pos h30] at HR5
                go_wp2
                go_meet
                exact ⟨t + 1, _, by go_num, .inr rfl, by omega, HR5, HA5⟩
              · rw [if_neg h30] at HR5
                go_wp2
                go_meet
                exact ⟨t, _, rfl, .inl rfl, ht, HR5, HA5⟩
      case rest =>
        obtain ⟨t', s', rfl, ht1, ht2, HR', HA'⟩ := hcut
        go_wp2_with fail
        refine (Quiet_at HA'.out 0).mono ?_
        rw [rel_quiet HR'.out]
        rintro e w6 ⟨rfl, h6⟩
        have HA6 := Lib.hid h6
        clear h6
        go_wp2
        go_roundw
        case rel => exact ⟨i + 1, t', s', by go_num, by omega, rfl, ht2, HR', HA6⟩
        case measure => simp [intOf]; omega
    · by_cases h1 : i < len
      · have h1' : (i : Int) < (len : Int) := by omega
        have h2' : ¬ (i : Int) < 60 := by omega
        go_wp2
        go_ret
        exact ⟨rfl, HA.out.below⟩
      · have h1' : ¬ (i : Int) < (len : Int) := by omega
        go_wp2
        go_ret
        exact ⟨rfl, HA.out.below⟩
theorem own : ownKnob Try.prog.godebug = none := by kernel_rfl
theorem laidOut : laidOutB Try.prog = true := by kernel_rfl
set_option maxRecDepth 100000 in
theorem lifted (os : Os) (started : os.Started) (H : Type) (enc : TypeId × Value → H) :
    ReturnsInHanded {} Try.checked os 5 .any (Rows.pulseApartSpec.pre6 enc Try.prog Try.f5 Rows.pulseApartRow.domain false) (Rows.pulseApartSpec.post enc Try.prog Try.f5 false true false false) := by
  refine returnsInHanded_of_change (C := Try.checked) own started (by kernel_rfl) Try.func5
    (ChangeSpec.witness6 (enc := enc) (C := Try.checked) false ⟨#[], #[.slice none 0 0], []⟩ 8 (by kernel_rfl) (by kernel_rfl) (by kernel_rfl) (by kernel_rfl)) ?_
  intro W base args ds gs before hval0 hW hcnd _
  have hval : ∀ (j : Nat) t v, Try.f5.params[j]? = some t → args[j]? = some v → Value.okWide Try.prog W .any base t v := hval0
  have hW' := hW
  obtain ⟨p, q, hA0, hV, rfl, hfz, hnd⟩ := hW
  have hA : DataW.TrodAll enc Try.prog W 0 (fun _ => true) true Try.f5.params.toList args.toList ds p := hA0
  rw [Try.params5] at hA hval
  obtain ⟨v0, vs0, d0, ds0, p0, q0, hargs, rfl, rfl, h0, r0⟩ := trodAll_cons hA
  obtain ⟨rfl, rfl, rfl⟩ := trodAll_nil r0
  obtain rfl : args = #[v0] := by cases args; simp_all
  obtain ⟨x0, len0, cap0, a0, rfl, w0, y0⟩ := opens_ops (hval 0 22 v0 rfl rfl) h0
  clear hA0 hval0
  refine (walk x0 len0 cap0 a0 W w0 y0).mono fun e W' ⟨he, bel⟩ => ?_
  subst he
  exact ⟨_, rfl, law_post laidOut (by rw [Try.params5]; decide +kernel) rfl Try.underlying4 rfl hW' (fun _ => rfl) bel⟩
theorem over : Rows.pulseApartRow.holds Try.pinned (OpenSpec.ofChange Rows.pulseApartSpec) :=
  OpenClaim.holds_of_wide 5 Try.f5 rfl rfl rfl rfl rfl rfl rfl ⟨rfl, rfl, rfl, rfl, rfl⟩ rfl rfl rfl rfl rfl (by kernel_rfl) Try.func5 (by kernel_rfl)
    (of_decide_eq_true (by kernel_rfl)) (by unfold Func.isWrapper; first | (rw [if_pos (by decide +kernel)]; kernel_rfl) | (rw [if_neg (by decide +kernel)]; exact ⟨rfl, rfl⟩))
    (fun os started H enc _ => lifted os started H enc)
theorem proved : Rows.PulseApartSaid := over
end Go.Proofs.Ytjmhepipkmbbmaa.pulseApart
