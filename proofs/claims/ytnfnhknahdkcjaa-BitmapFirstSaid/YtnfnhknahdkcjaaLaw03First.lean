/- What is told as the first one that is not taken is not, and all ahead of it are: BitmapFirst. -/
import Derived.Test.YtnfnhknahdkcjaaRows
import Derived.Test.YtnfnhknahdkcjaaRef03b
namespace Go.Proofs.Ytnfnhknahdkcjaa.bitmapFirst
open Go.RowKit Go.ChangeShapes Go.WideShapes Go.ChangeAt
open Go.ChangeMaps (open_string shut_string)

theorem short_len (a : List UInt8) : (a.take 100).length ≤ 100 := by simp; omega

theorem walk (a : List UInt8) (i : Int) (w : World) (_ha : a.length ≤ maxLen) (hi : (Lit.int .i64 i).wf = true) :
    Calls Try.prog 6 #[.string (str a), .int .i64 i] w fun e w' => e = .returned (.bool true) ∧ Below w.heap.size w w' := by
  have hi9 : i ≤ 9223372036854775807 := by have := bounds_i64 hi; omega
  clear hi
  have hl := short_len a
  by_cases h0 : i < 0
  all_goals
    go_enter Try.func6, Try.ntmps6
    go_wp2_with fail
    refine (awake_any _).mono ?_
    rintro e w1 ⟨rfl, hb1⟩
    have Hb1 := Lib.hid hb1
    clear hb1
    go_wp2_with fail
    refine (short_any _ _).mono ?_
    rintro e w2 ⟨rfl, rfl⟩
    obtain ⟨l, Hl⟩ : ∃ l, Hid (a.take 100 = l) := ⟨_, Lib.hid rfl⟩
    rw [Hl.out] at hl ⊢
    go_wp2_with fail
    refine (First_any _ (by omega) _ hi9 _).mono ?_
    rintro e w7 ⟨rfl, rfl⟩
    obtain ⟨f, Hf⟩ : ∃ f : Nat, Hid (i.toNat = f) := ⟨_, Lib.hid rfl⟩
    have hif : (i < 0 ∧ f = 0) ∨ (0 ≤ i ∧ i = (f : Int)) := by have := Hf.out; omega
    have Hif := Lib.hid hif
    clear hif
    rw [Hf.out]
    rcases Bm.next_cases l f false with ⟨hn, hall⟩ | ⟨k, hn, hmk, hk8, hbk, hall⟩
    · rw [hn]
      have Hall := Lib.hid hall
      clear hn hall
      go_wp2
      go_loop [9] (fun s => ∃ j : Nat, s = .int .i64 j ∧ f ≤ j ∧ j ≤ 9223372036854775807) (fun s => 8 * l.length - (intOf s).toNat)
      case atStart =>
        have := Hif.out
        exact ⟨f, by congr 1; omega, Nat.le_refl _, by omega⟩
      case round =>
        obtain ⟨j, rfl, hfj, hj9⟩ := hrel
        by_cases hlt : j < 8 * l.length
        · have hj8 : j < 8 * l.length := by omega
          have hb : Bm.bit l j = true := by have := Hall.out j hfj hlt; simpa using this
          have Hb := Lib.hid hb
          clear hb
          go_wp2_with fail
          refine (Has_in _ (by omega) _ hj8 _).mono ?_
          rintro e w7 ⟨rfl, rfl⟩
          rw [Hb.out]
          go_wp2
          go_round
          case rel => exact ⟨j + 1, by go_num, by omega, by omega⟩
          case measure => simp [intOf]; omega
        · go_wp2
          go_ret
          exact ⟨rfl, Hb1.out⟩
    · rw [hn]
      have Hall := Lib.hid hall
      have Hbk := Lib.hid hbk
      clear hn hall hbk
      go_wp2
      go_loop [9] (fun s => ∃ j : Nat, s = .int .i64 j ∧ f ≤ j ∧ j ≤ 9223372036854775807) (fun s => k - (intOf s).toNat)
      case atStart =>
        have := Hif.out
        exact ⟨f, by congr 1; omega, Nat.le_refl _, by omega⟩
      case round =>
        obtain ⟨j, rfl, hfj, hj9⟩ := hrel
        by_cases hlt : j < k
        · have hj8 : j < 8 * l.length := by omega
          have hb : Bm.bit l j = true := by have := Hall.out j hfj hlt; simpa using this
          have Hb := Lib.hid hb
          clear hb
          go_wp2_with fail
          refine (Has_in _ (by omega) _ hj8 _).mono ?_
          rintro e w7 ⟨rfl, rfl⟩
          rw [Hb.out]
          go_wp2
          go_round
          case rel => exact ⟨j + 1, by go_num, by omega, by omega⟩
          case measure => simp [intOf]; omega
        · have q : ((k : Int) == -1) = false := by simp
          have q2 := Hif.out
          have q3 : i ≤ (k : Int) := by omega
          clear q2
          go_wp2_with fail
          refine (Has_in _ (by omega) _ hk8 _).mono ?_
          rintro e w7 ⟨rfl, rfl⟩
          rw [Hbk.out]
          go_wp2
          go_ret
          exact ⟨rfl, Hb1.out⟩
theorem own : ownKnob Try.prog.godebug = none := by kernel_rfl
theorem laidOut : laidOutB Try.prog = true := by kernel_rfl
set_option maxRecDepth 100000 in
theorem lifted (os : Os) (started : os.Started) (H : Type) (enc : TypeId × Value → H) :
    ReturnsInHanded {} Try.checked os 6 .any (Rows.bitmapFirstSpec.pre6 enc Try.prog Try.f6 Rows.bitmapFirstRow.domain false) (Rows.bitmapFirstSpec.post enc Try.prog Try.f6 false true false false) := by
  refine returnsInHanded_of_change (C := Try.checked) own started (by kernel_rfl) Try.func6
    (ChangeSpec.witness6 (enc := enc) (C := Try.checked) false ⟨#[], #[.string ByteArray.empty, .int .i64 0], []⟩ 8 (by kernel_rfl) (by kernel_rfl) (by kernel_rfl) (by kernel_rfl)) ?_
  intro W base args ds gs before hval0 hW hcnd _
  have hval : ∀ (j : Nat) t v, Try.f6.params[j]? = some t → args[j]? = some v → Value.okWide Try.prog W .any base t v := hval0
  have hW' := hW
  obtain ⟨p, q, hA0, hV, rfl, hfz, hnd⟩ := hW
  have hA : DataW.TrodAll enc Try.prog W 0 (fun _ => true) true Try.f6.params.toList args.toList ds p := hA0
  rw [Try.params6] at hA hval
  obtain ⟨v0, vs0, d0, ds0, p0, q0, hargs, rfl, rfl, h0, r0⟩ := trodAll_cons hA
  obtain ⟨v1, vs1, d1, ds1, p1, q1, rfl, rfl, rfl, h1, r1⟩ := trodAll_cons r0
  obtain ⟨rfl, rfl, rfl⟩ := trodAll_nil r1
  obtain rfl : args = #[v0, v1] := by cases args; simp_all
  obtain ⟨s0, rfl, rfl, rfl, w0⟩ := open_string Try.underlying9 (hval 0 9 v0 rfl rfl) h0
  obtain ⟨a0, rfl⟩ := str_of s0
  rw [str_size] at w0
  obtain ⟨a1, rfl, rfl, rfl, w1⟩ := open_int Try.underlying3 (hval 1 3 v1 rfl rfl) h1
  clear hA0 hval0
  refine (walk a0 a1 W w0 w1).mono fun e W' ⟨he, bel⟩ => ?_
  subst he
  exact ⟨_, rfl, law_post laidOut (by rw [Try.params6]; decide +kernel) rfl Try.underlying4 rfl hW' (fun _ => rfl) bel⟩
theorem over : Rows.bitmapFirstRow.holds Try.pinned (OpenSpec.ofChange Rows.bitmapFirstSpec) :=
  OpenClaim.holds_of_wide 6 Try.f6 rfl rfl rfl rfl rfl rfl rfl ⟨rfl, rfl, rfl, rfl, rfl⟩ rfl rfl rfl rfl rfl (by kernel_rfl) Try.func6 (by kernel_rfl)
    (of_decide_eq_true (by kernel_rfl)) (by unfold Func.isWrapper; first | (rw [if_pos (by decide +kernel)]; kernel_rfl) | (rw [if_neg (by decide +kernel)]; exact ⟨rfl, rfl⟩))
    (fun os started H enc _ => lifted os started H enc)
theorem proved : Rows.BitmapFirstSaid := over
end Go.Proofs.Ytnfnhknahdkcjaa.bitmapFirst
