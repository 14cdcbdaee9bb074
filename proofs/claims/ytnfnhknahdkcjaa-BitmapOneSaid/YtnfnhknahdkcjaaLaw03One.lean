/- Setting a bit changes no other one, and how many are taken by one at most; back again all is as it was: BitmapOne. -/
import Derived.Test.YtnfnhknahdkcjaaRows
import Derived.Test.YtnfnhknahdkcjaaRef03b
namespace Go.Proofs.Ytnfnhknahdkcjaa.bitmapOne
open Go.RowKit Go.ChangeShapes Go.WideShapes Go.ChangeAt
open Go.ChangeMaps (open_string shut_string)

theorem short_len (a : List UInt8) : (a.take 100).length ≤ 100 := by simp; omega

theorem place (x : Int) (N : Nat) (h5 : 0 < N) :
    (x < 0 ∧ ∃ n : Nat, Hid (-((x + 1).tmod (8 * (N : Int))) = (n : Int)) ∧ n < 8 * N) ∨ (0 ≤ x ∧ ∃ n : Nat, Hid (x % (8 * (N : Int)) = (n : Int)) ∧ n < 8 * N) := by
  have key : ∀ y : Int, 0 ≤ y → ∃ n : Nat, y.tmod (8 * (N : Int)) = (n : Int) ∧ n < 8 * N := by
    intro y hy
    have h1 := Int.emod_nonneg y (b := 8 * (N : Int)) (by omega)
    have h2 := Int.emod_lt_of_pos y (b := 8 * (N : Int)) (by omega)
    refine ⟨(y % (8 * (N : Int))).toNat, ?_, by omega⟩
    rw [Int.tmod_eq_emod_of_nonneg hy]
    omega
  by_cases h : x < 0
  · obtain ⟨n, h1, h2⟩ := key (-(x + 1)) (by omega)
    rw [Int.neg_tmod] at h1
    exact .inl ⟨h, n, Lib.hid h1, h2⟩
  · obtain ⟨n, h1, h2⟩ := key x (by omega)
    rw [Int.tmod_eq_emod_of_nonneg (by omega)] at h1
    exact .inr ⟨by omega, n, Lib.hid h1, h2⟩
/-- A text turned at one bit, and back. -/
theorem back (l : List UInt8) (n : Nat) (h : n < 8 * l.length) : Bm.setI (Bm.setI l n (!Bm.bit l n)) n (Bm.bit l n) = l := by
  apply Bm.ext (by rw [Bm.setI_length, Bm.setI_length])
  intro j _
  rw [Bm.setI_nat, Bm.setI_nat, Bm.bit_set, Bm.set_length, Bm.bit_set]
  by_cases e : j = n
  · subst e; simp [h]
  · simp [e]
theorem same (l : List UInt8) (n : Nat) (i : Int) (h : i ≠ n) (t : Bool) : Bm.bitI (Bm.setI l n t) i = Bm.bitI l i := by
  rw [Bm.setI_nat]
  by_cases h0 : 0 ≤ i
  · obtain ⟨k, rfl⟩ := Int.eq_ofNat_of_zero_le h0
    rw [Bm.bitI_nat, Bm.bitI_nat, Bm.bit_set, if_neg (by omega)]
  · rw [Bm.bitI_neg (by omega), Bm.bitI_neg (by omega)]
theorem turned (l : List UInt8) (n : Nat) (h : n < 8 * l.length) (t : Bool) : Bm.bitI (Bm.setI l n t) n = t := by
  rw [Bm.setI_nat, Bm.bitI_nat, Bm.bit_set, if_pos ⟨rfl, h⟩]
/-- T is l, but for bit n, which was b. -/
structure Turn (l : List UInt8) (n : Nat) (b : Bool) (T : List UInt8) : Prop where
  length : T.length = l.length
  same : ∀ i : Int, i ≠ n → Bm.bitI T i = Bm.bitI l i
  turned : Bm.bitI T n = !b
  more : b = false → Bm.count T = Bm.count l + 1
  less : b = true → Bm.count T + 1 = Bm.count l
  back : Bm.setI T n b = l
  keep : Bm.setI l n b = l
theorem turn_of (l : List UInt8) (n : Nat) (h : n < 8 * l.length) : Turn l n (Bm.bit l n) (Bm.setI l n (!Bm.bit l n)) := by
  refine ⟨Bm.setI_length _ _ _, fun i hi => same l n i hi _, turned l n h _, fun hb => ?_, fun hb => ?_, back l n h, Bm.setI_bit (Bm.bitI_nat l n)⟩
  · rw [hb, Bm.setI_nat]; exact Bm.count_set_true h hb
  · rw [hb, Bm.setI_nat]; exact Bm.count_set_false h hb
theorem empty (x : Int) : Bm.setI [] x true = [] := by
  unfold Bm.setI Bm.set
  split <;> simp
set_option maxRecDepth 100000 in
set_option maxHeartbeats 2000000 in
theorem walk (a : List UInt8) (x : Int) (w : World) (_ha : a.length ≤ maxLen) (hx : (Lit.int .i64 x).wf = true) :
    Calls Try.prog 5 #[.string (str a), .int .i64 x] w fun e w' => e = .returned (.bool true) ∧ Below w.heap.size w w' := by
  have hx2 := bounds_i64 hx
  clear hx
  have hl := short_len a
  have Hem := Lib.hid (empty x)
  go_enter Try.func5, Try.ntmps5
  go_wp2_with fail
  refine (awake_any _).mono ?_
  rintro e w1 ⟨rfl, hb1⟩
  have Hb1 := Lib.hid hb1
  clear hb1
  go_wp2_with fail
  refine (short_any _ _).mono ?_
  rintro e w2 ⟨rfl, rfl⟩
  obtain ⟨l, Hl⟩ : ∃ l, Hid (a.take 100 = l) := ⟨_, Lib.hid rfl⟩
  rw [Hl.out] at hl ⊢
  by_cases h0 : l = []
  · have H0 := Lib.hid h0
    have q : ((l.length : Int) == 0) = true := by rw [h0]; rfl
    clear h0
    go_wp2_with fail
    rw [H0.out]
    refine (Set_any [] (by simp) _ _ _).mono ?_
    rintro e w2 ⟨rfl, hb2⟩
    have Hb2 := Lib.hid (bnext Hb1.out hb2)
    clear hb2
    rw [Hem.out]
    go_wp2
    go_ret
    exact ⟨rfl, Hb2.out⟩
  · have hpos : 0 < l.length := List.length_pos_iff.2 h0
    have q : ((l.length : Int) == 0) = false := by simp; omega
    clear h0
    rcases place x l.length hpos with ⟨hneg, n, Hn, hn⟩ | ⟨hneg, n, Hn, hn⟩
    all_goals
      have HT := Lib.hid (turn_of l n hn)
      have hcl := Bm.count_le l
      go_wp2_with fail
      rw [Hn.out]
      refine (Has_in _ (by omega) _ hn _).mono ?_
      rintro e w2 ⟨rfl, rfl⟩
      clear hx2 hneg
      obtain ⟨b, Hb⟩ : ∃ b, Hid (Bm.bit l n = b) := ⟨_, Lib.hid rfl⟩
      rw [Hb.out] at HT ⊢
      go_wp2_with fail
      refine (Set_any _ (by omega) _ _ _).mono ?_
      rintro e w2 ⟨rfl, hb2⟩
      have Hb2 := Lib.hid (bnext Hb1.out hb2)
      clear hb2
      obtain ⟨T, HTe⟩ : ∃ T, Hid (Bm.setI l n (!b) = T) := ⟨_, Lib.hid rfl⟩
      rw [HTe.out] at HT ⊢
      have hTl : T.length ≤ 100 := by rw [HT.out.length]; exact hl
      go_wp2_with fail
      go_loop [9] (fun s => ∃ i : Int, s = .int .i64 i ∧ -1 ≤ i ∧ i ≤ 8 * l.length + 1) (fun s => match s with | .int _ i => (8 * (l.length : Int) + 2 - i).toNat | _ => 0)
      case atStart => exact ⟨-1, rfl, by omega, by omega⟩
      case round =>
        obtain ⟨i, rfl, hi1, hi2⟩ := hrel
        by_cases hlt : i ≤ 8 * (l.length : Int)
        · by_cases hin : i = n
          · have q2 : (i != (n : Int)) = false := by simp [hin]
            clear hin
            go_wp2
            go_round
            case rel => exact ⟨i + 1, rfl, by omega, by omega⟩
            case measure => simp; omega
          · have q2 : (i != (n : Int)) = true := by simp [hin]
            have Hin := Lib.hid hin
            clear hin
            go_wp2_with fail
            refine (Has_any _ (by omega) _ _).mono ?_
            rintro e w3 ⟨rfl, rfl⟩
            go_wp2_with fail
            refine (Has_any _ (by omega) _ _).mono ?_
            rintro e w3 ⟨rfl, rfl⟩
            rw [HT.out.same i Hin.out]
            go_wp2
            go_round
            case rel => exact ⟨i + 1, rfl, by omega, by omega⟩
            case measure => simp; omega
        · have hnot : ¬ (i ≤ 8 * (l.length : Int)) := hlt
          cases b
          all_goals
            go_wp2_with fail
            refine (Has_any _ (by omega) _ _).mono ?_
            rintro e w3 ⟨rfl, rfl⟩
            rw [HT.out.turned]
            go_wp2_with fail
            refine (Count_any _ (by omega) _).mono ?_
            rintro e w3 ⟨rfl, rfl⟩
            first
            | rw [show (Bm.count T : Int) = (Bm.count l : Int) + 1 by have := HT.out.more rfl; omega]
            | rw [show (Bm.count T : Int) = (Bm.count l : Int) - 1 by have := HT.out.less rfl; omega]
            go_wp2_with fail
            refine (Count_any _ (by omega) _).mono ?_
            rintro e w3 ⟨rfl, rfl⟩
            go_wp2_with fail
            refine (Set_any _ (by omega) _ _ _).mono ?_
            rintro e w3 ⟨rfl, hb3⟩
            have Hb3 := Lib.hid (bnext Hb2.out hb3)
            clear hb3
            rw [HT.out.back]
            go_wp2_with fail
            refine (Set_any _ (by omega) _ _ _).mono ?_
            rintro e w4 ⟨rfl, hb4⟩
            have Hb4 := Lib.hid (bnext Hb3.out hb4)
            clear hb4
            rw [HT.out.keep]
            go_wp2
            go_ret
            exact ⟨rfl, Hb4.out⟩
theorem own : ownKnob Try.prog.godebug = none := by kernel_rfl
theorem laidOut : laidOutB Try.prog = true := by kernel_rfl
set_option maxRecDepth 100000 in
theorem lifted (os : Os) (started : os.Started) (H : Type) (enc : TypeId × Value → H) :
    ReturnsInHanded {} Try.checked os 5 .any (Rows.bitmapOneSpec.pre6 enc Try.prog Try.f5 Rows.bitmapOneRow.domain false) (Rows.bitmapOneSpec.post enc Try.prog Try.f5 false true false false) := by
  refine returnsInHanded_of_change (C := Try.checked) own started (by kernel_rfl) Try.func5
    (ChangeSpec.witness6 (enc := enc) (C := Try.checked) false ⟨#[], #[.string ByteArray.empty, .int .i64 0], []⟩ 8 (by kernel_rfl) (by kernel_rfl) (by kernel_rfl) (by kernel_rfl)) ?_
  intro W base args ds gs before hval0 hW hcnd _
  have hval : ∀ (j : Nat) t v, Try.f5.params[j]? = some t → args[j]? = some v → Value.okWide Try.prog W .any base t v := hval0
  have hW' := hW
  obtain ⟨p, q, hA0, hV, rfl, hfz, hnd⟩ := hW
  have hA : DataW.TrodAll enc Try.prog W 0 (fun _ => true) true Try.f5.params.toList args.toList ds p := hA0
  rw [Try.params5] at hA hval
  obtain ⟨v0, vs0, d0, ds0, p0, q0, hargs, rfl, rfl, h0, r0⟩ := trodAll_cons hA
  obtain ⟨v1, vs1, d1, ds1, p1, q1, rfl, rfl, rfl, h1, r1⟩ := trodAll_cons r0
  obtain ⟨rfl, rfl, rfl⟩ := trodAll_nil r1
  obtain rfl : args = #[v0, v1] := by cases args; simp_all
  obtain ⟨s0, rfl, rfl, rfl, w0⟩ := open_string Try.underlying9 (hval 0 9 v0 rfl rfl) h0
  obtain ⟨a0, rfl⟩ := str_of s0
  rw [str_size] at w0
  obtain ⟨a1, rfl, rfl, rfl, w1⟩ := open_int Try.underlying3 (hval 1 3 v1 rfl rfl) h1
  clear hA0 hval0
  refine (walk a0 a1 W w0 w1).mono fun e W' ⟨he, bel⟩ => ?_
  subst he
  exact ⟨_, rfl, law_post laidOut (by rw [Try.params5]; decide +kernel) rfl Try.underlying4 rfl hW' (fun _ => rfl) bel⟩
theorem over : Rows.bitmapOneRow.holds Try.pinned (OpenSpec.ofChange Rows.bitmapOneSpec) :=
  OpenClaim.holds_of_wide 5 Try.f5 rfl rfl rfl rfl rfl rfl rfl ⟨rfl, rfl, rfl, rfl, rfl⟩ rfl rfl rfl rfl rfl (by kernel_rfl) Try.func5 (by kernel_rfl)
    (of_decide_eq_true (by kernel_rfl)) (by unfold Func.isWrapper; first | (rw [if_pos (by decide +kernel)]; kernel_rfl) | (rw [if_neg (by decide +kernel)]; exact ⟨rfl, rfl⟩))
    (fun os started H enc _ => lifted os started H enc)
theorem proved : Rows.BitmapOneSaid := over
end Go.Proofs.Ytnfnhknahdkcjaa.bitmapOne
