/- Of a bitmap of so many bits the last one may be taken, and it is right still; one behind them may not: BitmapEdge. -/
import Derived.Test.YtnfnhknahdkcjaaRows
import Derived.Test.YtnfnhknahdkcjaaRef03b
namespace Go.Proofs.Ytnfnhknahdkcjaa.bitmapEdge
open Go.RowKit Go.ChangeShapes Go.WideShapes Go.ChangeAt
open Go.ChangeMaps (open_string shut_string)

theorem short_len (a : List UInt8) : (a.take 100).length ≤ 100 := by simp; omega

theorem rest_neg {n m : Int} (hm : 0 < m) (hm2 : m ≤ 1000000) (h : n.tmod m < 0) : ∃ k : Nat, Hid (wrap64 (-n.tmod m) = (k : Int)) ∧ (k : Int) < m := by
  have h1 : n < 0 := by
    rcases Int.lt_or_le n 0 with h1 | h1
    · exact h1
    · rw [Int.tmod_eq_emod_of_nonneg h1] at h
      have := Int.emod_nonneg n (b := m) (by omega)
      omega
  have e : -n.tmod m = (-n) % m := by rw [← Int.neg_tmod, Int.tmod_eq_emod_of_nonneg (by omega)]
  have h2 := Int.emod_nonneg (-n) (b := m) (by omega)
  have h3 := Int.emod_lt_of_pos (-n) hm
  refine ⟨((-n) % m).toNat, Lib.hid ?_, by omega⟩
  rw [e, IntWalk.wrap64_in _ ⟨by omega, by omega⟩]
  omega
theorem rest_pos {n m : Int} (hm : 0 < m) (h : 0 ≤ n.tmod m) : ∃ k : Nat, Hid (n.tmod m = (k : Int)) ∧ (k : Int) < m := by
  have h1 : n.tmod m < m := Int.tmod_lt_of_pos n hm
  exact ⟨(n.tmod m).toNat, Lib.hid (by omega), by omega⟩
theorem edge (k : Nat) (hk : k ≤ 1000) : rightB (zeros k) k = true ∧ rightB (Bm.setI (zeros k) ((k : Int) - 1) true) k = true ∧ rightB (Bm.setI (zeros k) k true) k = ((k : Int) % 8 == 0) ∧
    (Bm.setI (zeros k) k true == zeros k) = ((k : Int) % 8 == 0) ∧ (Bm.setI (zeros k) ((k : Int) - 1) true == zeros k) = ((k : Int) == 0) ∧ rightB (zeros k ++ [0]) k = false := by
  have hz : (zeros (k : Int)).length = (k + 7) / 8 := by rw [zeros_length]; unfold size; omega
  have hs : size (k : Int) = (k + 7) / 8 := by unfold size; omega
  have hb : ∀ j, Bm.bit (zeros (k : Int)) j = false := fun j => Bm.bit_zeros _ _
  have h0 : decide ((k : Int) ≤ 4000) = true := by simp; omega
  have h1 : decide (0 ≤ (k : Int)) = true := by simp
  refine ⟨?_, ?_, ?_, ?_, ?_, ?_⟩
  · rw [rightB, Int.toNat_natCast, Bm.next_none fun j _ _ => by rw [hb]; decide, hz, hs, h0, h1]
    simp
  · have e : Bm.next (Bm.setI (zeros (k : Int)) ((k : Int) - 1) true) k true = -1 := Bm.next_none fun j h1 _ => by
      rcases Nat.eq_zero_or_pos k with h2 | h2
      · rw [Bm.setI_neg (by omega), hb]; decide
      · rw [show (k : Int) - 1 = ((k - 1 : Nat) : Int) by omega, Bm.setI_nat, Bm.bit_set, if_neg (by omega), hb]; decide
    rw [rightB, Int.toNat_natCast, e, Bm.setI_length, hz, hs, h0, h1]
    simp
  · rw [rightB, Int.toNat_natCast, Bm.setI_length, hz, hs, h0, h1, Bm.setI_nat]
    by_cases h8 : k % 8 = 0
    · have hd : ((k : Int) % 8 == 0) = true := by rw [beq_iff_eq]; omega
      rw [Bm.set_out (by omega), Bm.next_none fun j _ _ => by rw [hb]; decide, hd]
      simp
    · have hd : ((k : Int) % 8 == 0) = false := by rw [beq_eq_false_iff_ne]; omega
      have hn : decide ((k : Int) < 0) = false := by simp
      rw [Bm.next_some (k := k) (Nat.le_refl _) (by rw [Bm.set_length]; omega) (by rw [Bm.bit_set, if_pos ⟨rfl, by omega⟩]) (fun j h1 h2 => by omega), hd, hn, Bool.and_false]
  · rw [Bm.setI_nat, Bool.eq_iff_iff, beq_iff_eq, beq_iff_eq]
    constructor
    · intro h
      have h2 := congrArg (fun l => Bm.bit l k) h
      simp only [Bm.bit_set, hb] at h2
      by_cases h8 : k < 8 * (zeros (k : Int)).length
      · simp [h8] at h2
      · omega
    · intro h
      exact Bm.set_out (by omega) _
  · rw [Bool.eq_iff_iff, beq_iff_eq, beq_iff_eq]
    constructor
    · intro h
      rcases Nat.eq_zero_or_pos k with h2 | h2
      · omega
      · exfalso
        rw [show (k : Int) - 1 = ((k - 1 : Nat) : Int) by omega, Bm.setI_nat] at h
        have h3 := congrArg (fun l => Bm.bit l (k - 1)) h
        simp only [Bm.bit_set, hb] at h3
        rw [if_pos ⟨trivial, by omega⟩] at h3
        exact absurd h3 (by decide)
    · intro h
      exact Bm.setI_neg (by omega) _
  · rw [rightB, List.length_append, hz, hs]
    simp
set_option maxRecDepth 100000 in
theorem walk (n : Int) (w : World) (hn : (Lit.int .i64 n).wf = true) :
    Calls Try.prog 10 #[.int .i64 n] w fun e w' => e = .returned (.bool true) ∧ Below w.heap.size w w' := by
  have hn2 := bounds_i64 hn
  clear hn
  have hcase : (n.tmod 1001 < 0 ∧ ∃ k : Nat, Hid (wrap64 (-n.tmod 1001) = (k : Int)) ∧ (k : Int) < 1001) ∨ (0 ≤ n.tmod 1001 ∧ ∃ k : Nat, Hid (n.tmod 1001 = (k : Int)) ∧ (k : Int) < 1001) := by
    rcases Int.lt_or_le (n.tmod 1001) 0 with h | h
    · exact .inl ⟨h, rest_neg (by omega) (by omega) h⟩
    · exact .inr ⟨h, rest_pos (by omega) h⟩
  rcases hcase with ⟨hneg, k, Hk, hk⟩ | ⟨hpos, k, Hk, hk⟩
  all_goals
    have Hed := Lib.hid (edge k (by omega))
    have hzl : (zeros (k : Int)).length ≤ 500 := by rw [zeros_length]; exact size_le _
    go_enter Try.func10, Try.ntmps10
    go_wp2_with fail
    refine (awake_any _).mono ?_
    rintro e w1 ⟨rfl, hb1⟩
    have Hb1 := Lib.hid hb1
    clear hb1
    go_wp2_with fail
    rw [Hk.out]
    refine (New_any _ _).mono ?_
    rintro e w2 ⟨rfl, hb2⟩
    have Hb2 := Lib.hid (bnext Hb1.out hb2)
    clear hb2
    obtain ⟨s, Hs⟩ : ∃ s, Hid (zeros (k : Int) = s) := ⟨_, Lib.hid rfl⟩
    rw [Hs.out] at hzl Hed ⊢
    go_wp2_with fail
    refine (Set_any _ (by omega) _ _ _).mono ?_
    rintro e w3 ⟨rfl, hb3⟩
    have Hb3 := Lib.hid (bnext Hb2.out hb3)
    clear hb3
    go_wp2_with fail
    refine (Set_any _ (by omega) _ _ _).mono ?_
    rintro e w4 ⟨rfl, hb4⟩
    have Hb4 := Lib.hid (bnext Hb3.out hb4)
    clear hb4
    have hal := Bm.setI_length s ((k : Int) - 1) true
    have hbl := Bm.setI_length s (k : Int) true
    obtain ⟨a, Ha⟩ : ∃ a, Hid (Bm.setI s ((k : Int) - 1) true = a) := ⟨_, Lib.hid rfl⟩
    obtain ⟨b, Hb⟩ : ∃ b, Hid (Bm.setI s (k : Int) true = b) := ⟨_, Lib.hid rfl⟩
    rw [Ha.out] at hal Hed ⊢
    rw [Hb.out] at hbl Hed ⊢
    have ha5 : a.length ≤ 500 := by omega
    have hb5 : b.length ≤ 500 := by omega
    clear hal hbl
    go_wp2_with fail
    refine (Right_any _ (by omega) _ _).mono ?_
    rintro e w5 ⟨rfl, hb5⟩
    have Hb5 := Lib.hid (bnext Hb4.out hb5)
    clear hb5
    rw [Hed.out.1]
    go_wp2_with fail
    refine (Right_any _ (by omega) _ _).mono ?_
    rintro e w6 ⟨rfl, hb6⟩
    have Hb6 := Lib.hid (bnext Hb5.out hb6)
    clear hb6
    rw [Hed.out.2.1]
    go_wp2_with fail
    refine (Right_any _ (by omega) _ _).mono ?_
    rintro e w7 ⟨rfl, hb7⟩
    have Hb7 := Lib.hid (bnext Hb6.out hb7)
    clear hb7
    rw [Hed.out.2.2.1]
    have q1 := Hed.out.2.2.2.1
    have q2 := Hed.out.2.2.2.2.1
    go_wp2_with fail
    rw [show str s ++ (⟨#[0]⟩ : ByteArray) = str (s ++ [0]) from str_append s [0]]
    refine (Right_any _ (by simp; omega) _ _).mono ?_
    rintro e w8 ⟨rfl, hb8⟩
    have Hb8 := Lib.hid (bnext Hb7.out hb8)
    clear hb8
    rw [Hed.out.2.2.2.2.2]
    go_wp2
    go_ret
    exact ⟨rfl, Hb8.out⟩
theorem own : ownKnob Try.prog.godebug = none := by kernel_rfl
theorem laidOut : laidOutB Try.prog = true := by kernel_rfl
set_option maxRecDepth 100000 in
theorem lifted (os : Os) (started : os.Started) (H : Type) (enc : TypeId × Value → H) :
    ReturnsInHanded {} Try.checked os 10 .any (Rows.bitmapEdgeSpec.pre6 enc Try.prog Try.f10 Rows.bitmapEdgeRow.domain false) (Rows.bitmapEdgeSpec.post enc Try.prog Try.f10 false true false false) := by
  refine returnsInHanded_of_change (C := Try.checked) own started (by kernel_rfl) Try.func10
    (ChangeSpec.witness6 (enc := enc) (C := Try.checked) false ⟨#[], #[.int .i64 0], []⟩ 8 (by kernel_rfl) (by kernel_rfl) (by kernel_rfl) (by kernel_rfl)) ?_
  intro W base args ds gs before hval0 hW hcnd _
  have hval : ∀ (j : Nat) t v, Try.f10.params[j]? = some t → args[j]? = some v → Value.okWide Try.prog W .any base t v := hval0
  have hW' := hW
  obtain ⟨p, q, hA0, hV, rfl, hfz, hnd⟩ := hW
  have hA : DataW.TrodAll enc Try.prog W 0 (fun _ => true) true Try.f10.params.toList args.toList ds p := hA0
  rw [Try.params10] at hA hval
  obtain ⟨v0, vs0, d0, ds0, p0, q0, hargs, rfl, rfl, h0, r0⟩ := trodAll_cons hA
  obtain ⟨rfl, rfl, rfl⟩ := trodAll_nil r0
  obtain rfl : args = #[v0] := by cases args; simp_all
  obtain ⟨a0, rfl, rfl, rfl, w0⟩ := open_int Try.underlying3 (hval 0 3 v0 rfl rfl) h0
  clear hA0 hval0
  refine (walk a0 W w0).mono fun e W' ⟨he, bel⟩ => ?_
  subst he
  exact ⟨_, rfl, law_post laidOut (by rw [Try.params10]; decide +kernel) rfl Try.underlying4 rfl hW' (fun _ => rfl) bel⟩
theorem over : Rows.bitmapEdgeRow.holds Try.pinned (OpenSpec.ofChange Rows.bitmapEdgeSpec) :=
  OpenClaim.holds_of_wide 10 Try.f10 rfl rfl rfl rfl rfl rfl rfl ⟨rfl, rfl, rfl, rfl, rfl⟩ rfl rfl rfl rfl rfl (by kernel_rfl) Try.func10 (by kernel_rfl)
    (of_decide_eq_true (by kernel_rfl)) (by unfold Func.isWrapper; first | (rw [if_pos (by decide +kernel)]; kernel_rfl) | (rw [if_neg (by decide +kernel)]; exact ⟨rfl, rfl⟩))
    (fun os started H enc _ => lifted os started H enc)
theorem proved : Rows.BitmapEdgeSaid := over
end Go.Proofs.Ytnfnhknahdkcjaa.bitmapEdge
