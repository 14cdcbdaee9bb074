/- Taken one by one, each time the first one, all are taken in order, and then none is left: BitmapFills. -/
import Derived.Test.YtnfnhknahdkcjaaRows
import Derived.Test.YtnfnhknahdkcjaaRef03b
namespace Go.Proofs.Ytnfnhknahdkcjaa.bitmapFills
open Go.RowKit Go.ChangeShapes Go.WideShapes Go.ChangeAt
open Go.ChangeMaps (open_string shut_string)

theorem short_len (a : List UInt8) : (a.take 100).length ≤ 100 := by simp; omega

theorem rest_neg {n m : Int} (hm : 0 < m) (hm2 : m ≤ 1000000) (h : n.tmod m < 0) : ∃ k : Nat, Hid (wrap64 (-n.tmod m) = (k : Int)) ∧ (k : Int) < m := by
  have h1 : n < 0 := by
    rcases Int.lt_or_le n 0 with h1 | h1
    · exact h1
    · rw [Int.tmod_eq_emod_of_nonneg h1] at h
      have := Int.emod_nonneg n (b := m) (by omega)
      omega
  have e : -n.tmod m = (-n) % m := by rw [← Int.neg_tmod, Int.tmod_eq_emod_of_nonneg (by omega)]
  have h2 := Int.emod_nonneg (-n) (b := m) (by omega)
  have h3 := Int.emod_lt_of_pos (-n) hm
  refine ⟨((-n) % m).toNat, Lib.hid ?_, by omega⟩
  rw [e, IntWalk.wrap64_in _ ⟨by omega, by omega⟩]
  omega
theorem rest_pos {n m : Int} (hm : 0 < m) (h : 0 ≤ n.tmod m) : ∃ k : Nat, Hid (n.tmod m = (k : Int)) ∧ (k : Int) < m := by
  have h1 : n.tmod m < m := Int.tmod_lt_of_pos n hm
  exact ⟨(n.tmod m).toNat, Lib.hid (by omega), by omega⟩
/-- A text whose first bits are taken, and no others. -/
structure First (z i : Nat) (s : List UInt8) : Prop where
  length : s.length = z
  bits : ∀ j, j < 8 * z → Bm.bit s j = decide (j < i)
theorem First.start (n : Int) : First (size n) 0 (zeros n) := ⟨zeros_length n, fun j _ => by rw [zeros, Bm.bit_zeros]; simp⟩
theorem First.set {z i : Nat} {s : List UInt8} (h : First z i s) (hi : i < 8 * z) : First z (i + 1) (Bm.setI s i true) := by
  refine ⟨by rw [Bm.setI_length, h.length], fun j hj => ?_⟩
  rw [Bm.setI_nat, Bm.bit_set]
  by_cases e : j = i
  · subst e
    rw [if_pos ⟨rfl, by rw [h.length]; exact hi⟩]
    simp
  · rw [if_neg (by simp [e]), h.bits j hj]
    exact decide_eq_decide.2 (by omega)
theorem First.next {z i : Nat} {s : List UInt8} (h : First z i s) (hi : i < 8 * z) : Bm.next s 0 false = i :=
  Bm.next_some (Nat.zero_le _) (by rw [h.length]; exact hi) (by rw [h.bits i hi]; simp) (fun j _ h2 => by rw [h.bits j (by omega)]; simp [h2])
theorem First.done {z i : Nat} {s : List UInt8} (h : First z i s) (hi : 8 * z ≤ i) : Bm.next s 0 false = -1 :=
  Bm.next_none fun j _ h2 => by
    rw [h.length] at h2
    rw [h.bits j h2]
    simp
    omega
theorem filter_lt (i : Nat) : ∀ n, ((List.range n).filter fun j => decide (j < i)).length = min n i
  | 0 => by simp
  | n + 1 => by
    rw [List.range_succ, List.filter_append, List.length_append, filter_lt i n]
    by_cases h : n < i
    · simp [h]; omega
    · simp [h]; omega
theorem First.count {z i : Nat} {s : List UInt8} (h : First z i s) (hi : i ≤ 8 * z) : Bm.count s = i := by
  unfold Bm.count Bm.each Bm.upto
  have e : (List.range (8 * s.length)).filter (Bm.bit s) = (List.range (8 * s.length)).filter fun j => decide (j < i) := by
    apply List.filter_congr
    intro j hj
    exact h.bits j (by rw [← h.length]; simpa using hj)
  rw [e, filter_lt, h.length]
  omega
set_option maxRecDepth 100000 in
theorem walk (n : Int) (w : World) (hn : (Lit.int .i64 n).wf = true) :
    Calls Try.prog 7 #[.int .i64 n] w fun e w' => e = .returned (.bool true) ∧ Below w.heap.size w w' := by
  have hn2 := bounds_i64 hn
  clear hn
  have hcase : (n.tmod 301 < 0 ∧ ∃ k : Nat, Hid (wrap64 (-n.tmod 301) = (k : Int)) ∧ (k : Int) < 301) ∨ (0 ≤ n.tmod 301 ∧ ∃ k : Nat, Hid (n.tmod 301 = (k : Int)) ∧ (k : Int) < 301) := by
    rcases Int.lt_or_le (n.tmod 301) 0 with h | h
    · exact .inl ⟨h, rest_neg (by omega) (by omega) h⟩
    · exact .inr ⟨h, rest_pos (by omega) h⟩
  rcases hcase with ⟨hneg, k, Hk, hk⟩ | ⟨hpos, k, Hk, hk⟩
  all_goals
    have Hs0 := Lib.hid (First.start k)
    have hz : k ≤ 8 * size (k : Int) ∧ 8 * size (k : Int) < k + 8 := by unfold size; omega
    have hzl : (zeros (k : Int)).length = size (k : Int) := zeros_length _
    obtain ⟨z, Hz⟩ : ∃ z, Hid (size (k : Int) = z) := ⟨_, Lib.hid rfl⟩
    rw [Hz.out] at Hs0 hz hzl
    obtain ⟨hz1, hz2⟩ := hz
    have Hzl := Lib.hid hzl
    clear hzl
    go_enter Try.func7, Try.ntmps7
    go_wp2_with fail
    refine (awake_any _).mono ?_
    rintro e w1 ⟨rfl, hb1⟩
    have Hb1 := Lib.hid hb1
    clear hb1
    go_wp2_with fail
    rw [Hk.out]
    refine (New_any _ _).mono ?_
    rintro e w2 ⟨rfl, hb2⟩
    have Hb2 := Lib.hid (bnext Hb1.out hb2)
    clear hb2
    have hzl5 : (zeros (k : Int)).length ≤ 500 := by rw [zeros_length]; exact size_le _
    go_wp2_with fail
    rw [Hzl.out]
    go_loopw [5, 7] (fun v i wr => ∃ (s : List UInt8) (j : Nat), v = .string (str s) ∧ i = .int .i64 j ∧ j ≤ 8 * z ∧ Hid (First z j s) ∧ Below w.heap.size w wr) (fun _ i _ => 8 * z - (intOf i).toNat)
    case atStart => exact ⟨_, 0, rfl, rfl, Nat.zero_le _, Hs0, Hb2.out⟩
    case round =>
      obtain ⟨s, j, rfl, rfl, hj, Hs, hbel⟩ := hrel
      have Hbel := Lib.hid hbel
      clear hbel
      have hsl : s.length ≤ 500 := by rw [Hs.out.length]; omega
      by_cases hlt : j < 8 * z
      · go_wp2_with fail
        refine (First_any s (by omega) 0 (by omega) _).mono ?_
        rintro e w3 ⟨rfl, rfl⟩
        rw [show (0 : Int).toNat = 0 from rfl, Hs.out.next hlt]
        go_wp2_with fail
        refine (Count_any s (by omega) _).mono ?_
        rintro e w3 ⟨rfl, rfl⟩
        rw [Hs.out.count hj]
        go_wp2_with fail
        refine (Set_any s (by omega) _ _ _).mono ?_
        rintro e w3 ⟨rfl, hb3⟩
        have Hb3 := Lib.hid (bnext Hbel.out hb3)
        clear hb3
        go_wp2
        go_roundw
        case rel => exact ⟨_, j + 1, rfl, by go_num, by omega, Lib.hid (Hs.out.set hlt), Hb3.out⟩
        case measure => simp [intOf]; omega
      · have E := Lib.hid (show j = 8 * z by omega)
        go_wp2_with fail
        refine (First_any s (by omega) 0 (by omega) _).mono ?_
        rintro e w3 ⟨rfl, rfl⟩
        rw [show (0 : Int).toNat = 0 from rfl, Hs.out.done (by omega)]
        go_wp2_with fail
        refine (Each_any s (by omega) _).mono ?_
        rintro e w4 ⟨x, m, c, rfl, hx, hb4⟩
        have Hb4 := Lib.hid (bnext Hbel.out hb4)
        have hm : m = 8 * z := by
          have h1 := hx.length
          have h2 := Hs.out.count hj
          simp [ints] at h1
          rw [Bm.count] at h2
          omega
        have Hm := Lib.hid hm
        clear hb4 hx hm
        rw [Hm.out]
        go_wp2
        go_ret
        exact ⟨ret_bool (by simp; omega), Hb4.out⟩
theorem own : ownKnob Try.prog.godebug = none := by kernel_rfl
theorem laidOut : laidOutB Try.prog = true := by kernel_rfl
set_option maxRecDepth 100000 in
theorem lifted (os : Os) (started : os.Started) (H : Type) (enc : TypeId × Value → H) :
    ReturnsInHanded {} Try.checked os 7 .any (Rows.bitmapFillsSpec.pre6 enc Try.prog Try.f7 Rows.bitmapFillsRow.domain false) (Rows.bitmapFillsSpec.post enc Try.prog Try.f7 false true false false) := by
  refine returnsInHanded_of_change (C := Try.checked) own started (by kernel_rfl) Try.func7
    (ChangeSpec.witness6 (enc := enc) (C := Try.checked) false ⟨#[], #[.int .i64 0], []⟩ 8 (by kernel_rfl) (by kernel_rfl) (by kernel_rfl) (by kernel_rfl)) ?_
  intro W base args ds gs before hval0 hW hcnd _
  have hval : ∀ (j : Nat) t v, Try.f7.params[j]? = some t → args[j]? = some v → Value.okWide Try.prog W .any base t v := hval0
  have hW' := hW
  obtain ⟨p, q, hA0, hV, rfl, hfz, hnd⟩ := hW
  have hA : DataW.TrodAll enc Try.prog W 0 (fun _ => true) true Try.f7.params.toList args.toList ds p := hA0
  rw [Try.params7] at hA hval
  obtain ⟨v0, vs0, d0, ds0, p0, q0, hargs, rfl, rfl, h0, r0⟩ := trodAll_cons hA
  obtain ⟨rfl, rfl, rfl⟩ := trodAll_nil r0
  obtain rfl : args = #[v0] := by cases args; simp_all
  obtain ⟨a0, rfl, rfl, rfl, w0⟩ := open_int Try.underlying3 (hval 0 3 v0 rfl rfl) h0
  clear hA0 hval0
  refine (walk a0 W w0).mono fun e W' ⟨he, bel⟩ => ?_
  subst he
  exact ⟨_, rfl, law_post laidOut (by rw [Try.params7]; decide +kernel) rfl Try.underlying4 rfl hW' (fun _ => rfl) bel⟩
theorem over : Rows.bitmapFillsRow.holds Try.pinned (OpenSpec.ofChange Rows.bitmapFillsSpec) :=
  OpenClaim.holds_of_wide 7 Try.f7 rfl rfl rfl rfl rfl rfl rfl ⟨rfl, rfl, rfl, rfl, rfl⟩ rfl rfl rfl rfl rfl (by kernel_rfl) Try.func7 (by kernel_rfl)
    (of_decide_eq_true (by kernel_rfl)) (by unfold Func.isWrapper; first | (rw [if_pos (by decide +kernel)]; kernel_rfl) | (rw [if_neg (by decide +kernel)]; exact ⟨rfl, rfl⟩))
    (fun os started H enc _ => lifted os started H enc)
theorem proved : Rows.BitmapFillsSaid := over
end Go.Proofs.Ytnfnhknahdkcjaa.bitmapFills
