/- BagFull: at most 200 messages wait on a link, of 2000 bytes at most; another link has room. No conditions. -/
import Derived.Test.YtmgdnffniafbkaaRows
import Derived.Test.YtmgdnffniafbkaaAwake05
import Derived.Test.YtmgdnffniafbkaaOps05
import Derived.Test.YtmgdnffniafbkaaRest05
namespace Go.Proofs.Ytmgdnffniafbkaa.bagFull
open Go.RowKit Go.ChangeShapes Go.WideShapes Go.ChangeAt
open Go.ChangeMaps (open_string shut_string)

set_option maxRecDepth 100000 in
set_option maxHeartbeats 2000000 in
theorem walk (a0 a1 : Int) (W : World) (_ : (Lit.int .i64 a0).wf = true) (_ : (Lit.int .i64 a1).wf = true) :
    Calls Try.prog 6 #[.int .i64 a0, .int .i64 a1] W fun e W' => e = .returned (.bool true) ∧ Below W.heap.size W W' := by
  have hcase : (a0.tmod 20 < 0 ∧ ∃ k : Nat, Hid (wrap64 (-a0.tmod 20) = (k : Int)) ∧ (k : Int) < 20) ∨ (0 ≤ a0.tmod 20 ∧ ∃ k : Nat, Hid (a0.tmod 20 = (k : Int)) ∧ (k : Int) < 20) := by
    rcases Int.lt_or_le (a0.tmod 20) 0 with h | h
    · exact .inl ⟨h, rest_neg (by omega) (by omega) h⟩
    · exact .inr ⟨h, rest_pos (by omega) h⟩
  have hcase1 : (a1.tmod 21 < 0 ∧ ∃ k : Nat, Hid (wrap64 (-a1.tmod 21) = (k : Int)) ∧ (k : Int) < 21) ∨ (0 ≤ a1.tmod 21 ∧ ∃ k : Nat, Hid (a1.tmod 21 = (k : Int)) ∧ (k : Int) < 21) := by
    rcases Int.lt_or_le (a1.tmod 21) 0 with h | h
    · exact .inl ⟨h, rest_neg (by omega) (by omega) h⟩
    · exact .inr ⟨h, rest_pos (by omega) h⟩
  have Hcase1 := Lib.hid hcase1
  have Hw0 : Hid ((Lit.int .i64 0).wf = true) := Lib.hid (by decide)
  clear hcase1
  go_enter Try.func6, Try.ntmps6
  go_wp2_with fail
  refine (awake_any _).mono ?_
  rintro e w2 ⟨rfl, hb2⟩
  have Hb2 := Lib.hid hb2
  clear hb2
  go_wp2_with fail
  refine (New_own W Hb2.out).mono ?_
  rintro e w3 ⟨b, rfl, h3, _⟩
  have H3 := Lib.hid h3
  clear h3
  rcases hcase with ⟨hneg, n, Hn, hn⟩ | ⟨hpos, n, Hn, hn⟩
  all_goals
    go_wp2
    try rw [Hn.out]
    have hn20 : n < 20 := by omega
    go_loopw [8, 9] (fun c i wr => ∃ j m : Nat, i = .int .i64 (j : Int) ∧ c = .int .i64 (m : Int) ∧ j ≤ 190 + n ∧ m ≤ 200 ∧ Hid (m = min j 200) ∧ Hid (Own W wr b (fs m) (fun _ => False))) (fun _ i _ => 190 + n - (intOf i).toNat)
    case atStart => exact ⟨0, 0, rfl, rfl, by omega, by omega, Lib.hid rfl, by rw [fs_zero]; exact H3⟩
    case round =>
      obtain ⟨j, m, rfl, rfl, hj, hm, Hm, HO⟩ := hrel
      have hlt0 : ∀ k, m = k → k ≤ 200 := fun k h => by omega
      clear hlt0
      by_cases hlt : j < 190 + n
      · have hd : decide ((j : Int) < 190 + (n : Int)) = true := by simp; omega
        by_cases hf : m < 200
        · have Hf : Hid (sendB (fs m) 3 4 [] = true) := Lib.hid (by rw [fs_send]; simpa using hf)
          go_wp2_with fail
          rw [show (⟨#[]⟩ : ByteArray) = str [] from rfl]
          refine (Send_own HO.out 3 4 [] (by decide)).mono ?_
          rw [Hf.out, fs_sent hf]
          rintro e w4 ⟨rfl, h4, _⟩
          have H4 := Lib.hid h4
          clear h4
          go_wp2
          go_roundw
          case rel => exact ⟨j + 1, m + 1, by go_num, by go_num, by omega, by omega, Lib.hid (by have := Hm.out; omega), H4⟩
          case measure => simp [intOf]; omega
        · have Hf : Hid (sendB (fs m) 3 4 [] = false) := Lib.hid (by rw [fs_send]; simpa using hf)
          go_wp2_with fail
          rw [show (⟨#[]⟩ : ByteArray) = str [] from rfl]
          refine (Send_own HO.out 3 4 [] (by decide)).mono ?_
          rw [Hf.out, fs_full hf]
          rintro e w4 ⟨rfl, h4, _⟩
          have H4 := Lib.hid h4
          clear h4
          go_wp2
          go_roundw
          case rel => exact ⟨j + 1, m, by go_num, rfl, by omega, by omega, Lib.hid (by have := Hm.out; omega), H4⟩
          case measure => simp [intOf]; omega
      · have hd : decide ((j : Int) < 190 + (n : Int)) = false := by simp; omega
        have hm0 : 0 < m := by have := Hm.out; omega
        obtain ⟨D, HD⟩ : ∃ D, Hid (decide (m < 200) = D) := ⟨_, Lib.hid rfl⟩
        have hw1 : (200 < 190 + (n : Int) ∧ m = 200) ∨ (¬ 200 < 190 + (n : Int) ∧ m = 190 + n) := by have := Hm.out; omega
        have Hdb : Hid (dbB (fs m) 3 4 = D) := Lib.hid (by rw [fs_dbB hm0]; exact HD.out)
        have HO2 := Lib.hid HO.out
        clear hlt hj hm HO Hm
        rcases hw1 with ⟨hq, hme⟩ | ⟨hq, hme⟩
        · have hq' : decide (200 < 190 + (n : Int)) = true := by simpa using hq
          have hD : D = false := by have := HD.out; rw [hme] at this; exact this.symm
          subst hD
          have hme' : ((m : Int) == 200) = true := beq_yes (by omega)
          clear hq hme
          go_wp2_with fail
          refine (Double_own HO2.out 3 4 Hw0.out).mono ?_
          rw [Hdb.out]
          rintro e w5 ⟨rfl, h5, _⟩
          have H5 := Lib.hid h5
          clear h5
          rcases Hcase1.out with ⟨hneg1, q, Hq, hq1⟩ | ⟨hpos1, q, Hq, hq1⟩
          all_goals
            have hqle : q ≤ 20 := by omega
            have hqv := Hq.out
            obtain ⟨N, HN⟩ : ∃ N : Nat, Hid (1990 + (q : Int) = N) := ⟨1990 + q, Lib.hid (by omega)⟩
            have hmk := mkn w5 (1990 + (q : Int)) (by omega) (by omega)
            have hcv := (bytes_zero w5 N).back N
            rw [HN.out, Int.toNat_natCast, ← HN.out] at hmk
            rw [List.length_replicate] at hcv
            obtain ⟨E, HE⟩ : ∃ E, Hid (decide (N ≤ 2000) = E) := ⟨_, Lib.hid rfl⟩
            have hE : decide ((q : Int) ≤ 10) = E := by rw [← HE.out]; have := HN.out; rw [decide_eq_decide]; omega
            have Hs : Hid (sendB (dbS (fs m) 3 4 0) 4 3 (List.replicate N 0) = E) := Lib.hid (by rw [fs_other, List.length_replicate]; exact HE.out)
            have HNl : Hid ((List.replicate N (0 : UInt8)).length ≤ 9223372036854775807) := Lib.hid (by have := HN.out; rw [List.length_replicate]; omega)
            obtain ⟨L, HL⟩ : ∃ L, Hid (List.replicate N (0 : UInt8) = L) := ⟨_, Lib.hid rfl⟩
            rw [HL.out] at hcv HNl Hs
            have H6 := Lib.hid (H5.out.later ((Below.refl _ _).alloc (Nat.le_refl _) (zeroObj N)))
            go_wp2_with fail
            refine (Send_own H6.out 4 3 L HNl.out).mono ?_
            rw [Hs.out]
            rintro e w7 ⟨rfl, h7, _⟩
            have H7 := Lib.hid h7
            clear h7
            go_wp2
            go_ret
            exact ⟨rfl, H7.out.below⟩
        · have hq' : decide (200 < 190 + (n : Int)) = false := by simpa using hq
          have hwD : decide (190 + (n : Int) < 200) = D := by rw [← HD.out, decide_eq_decide]; omega
          have hme' : ((m : Int) == 190 + (n : Int)) = true := beq_yes (by omega)
          clear hq hme
          go_wp2_with fail
          refine (Double_own HO2.out 3 4 Hw0.out).mono ?_
          rw [Hdb.out]
          rintro e w5 ⟨rfl, h5, _⟩
          have H5 := Lib.hid h5
          clear h5
          rcases Hcase1.out with ⟨hneg1, q, Hq, hq1⟩ | ⟨hpos1, q, Hq, hq1⟩
          all_goals
            have hqle : q ≤ 20 := by omega
            have hqv := Hq.out
            obtain ⟨N, HN⟩ : ∃ N : Nat, Hid (1990 + (q : Int) = N) := ⟨1990 + q, Lib.hid (by omega)⟩
            have hmk := mkn w5 (1990 + (q : Int)) (by omega) (by omega)
            have hcv := (bytes_zero w5 N).back N
            rw [HN.out, Int.toNat_natCast, ← HN.out] at hmk
            rw [List.length_replicate] at hcv
            obtain ⟨E, HE⟩ : ∃ E, Hid (decide (N ≤ 2000) = E) := ⟨_, Lib.hid rfl⟩
            have hE : decide ((q : Int) ≤ 10) = E := by rw [← HE.out]; have := HN.out; rw [decide_eq_decide]; omega
            have Hs : Hid (sendB (dbS (fs m) 3 4 0) 4 3 (List.replicate N 0) = E) := Lib.hid (by rw [fs_other, List.length_replicate]; exact HE.out)
            have HNl : Hid ((List.replicate N (0 : UInt8)).length ≤ 9223372036854775807) := Lib.hid (by have := HN.out; rw [List.length_replicate]; omega)
            obtain ⟨L, HL⟩ : ∃ L, Hid (List.replicate N (0 : UInt8) = L) := ⟨_, Lib.hid rfl⟩
            rw [HL.out] at hcv HNl Hs
            have H6 := Lib.hid (H5.out.later ((Below.refl _ _).alloc (Nat.le_refl _) (zeroObj N)))
            go_wp2_with fail
            refine (Send_own H6.out 4 3 L HNl.out).mono ?_
            rw [Hs.out]
            rintro e w7 ⟨rfl, h7, _⟩
            have H7 := Lib.hid h7
            clear h7
            go_wp2
            go_ret
            exact ⟨rfl, H7.out.below⟩
theorem own : ownKnob Try.prog.godebug = none := by kernel_rfl
theorem laidOut : laidOutB Try.prog = true := by kernel_rfl
set_option maxRecDepth 100000 in
theorem lifted (os : Os) (started : os.Started) (H : Type) (enc : TypeId × Value → H) :
    ReturnsInHanded {} Try.checked os 6 .any (Rows.bagFullSpec.pre6 enc Try.prog Try.f6 Rows.bagFullRow.domain false) (Rows.bagFullSpec.post enc Try.prog Try.f6 false true false false) := by
  refine returnsInHanded_of_change (C := Try.checked) own started (by kernel_rfl) Try.func6
    (ChangeSpec.witness6 (enc := enc) (C := Try.checked) false ⟨#[], #[.int .i64 0, .int .i64 0], []⟩ 8 (by kernel_rfl) (by kernel_rfl) (by kernel_rfl) (by kernel_rfl)) ?_
  intro W base args ds gs before hval0 hW hcnd _
  have hval : ∀ (j : Nat) t v, Try.f6.params[j]? = some t → args[j]? = some v → Value.okWide Try.prog W .any base t v := hval0
  have hW' := hW
  obtain ⟨p, q, hA0, hV, rfl, hfz, hnd⟩ := hW
  have hA : DataW.TrodAll enc Try.prog W 0 (fun _ => true) true Try.f6.params.toList args.toList ds p := hA0
  rw [Try.params6] at hA hval
  obtain ⟨v0, vs0, d0, ds0, p0, q0, hargs, rfl, rfl, h0, r0⟩ := trodAll_cons hA
  obtain ⟨v1, vs1, d1, ds1, p1, q1, rfl, rfl, rfl, h1, r1⟩ := trodAll_cons r0
  obtain ⟨rfl, rfl, rfl⟩ := trodAll_nil r1
  obtain rfl : args = #[v0, v1] := by cases args; simp_all
  obtain ⟨a0, rfl, rfl, rfl, w0⟩ := open_int Try.underlying3 (hval 0 3 v0 rfl rfl) h0
  obtain ⟨a1, rfl, rfl, rfl, w1⟩ := open_int Try.underlying3 (hval 1 3 v1 rfl rfl) h1
  clear hA0 hval0
  refine (walk a0 a1 W w0 w1).mono fun e W' ⟨he, bel⟩ => ?_
  subst he
  exact ⟨_, rfl, law_post laidOut (by rw [Try.params6]; decide +kernel) rfl Try.underlying4 rfl hW' (fun _ => rfl) bel⟩
theorem over : Rows.bagFullRow.holds Try.pinned (OpenSpec.ofChange Rows.bagFullSpec) :=
  OpenClaim.holds_of_wide 6 Try.f6 rfl rfl rfl rfl rfl rfl rfl ⟨rfl, rfl, rfl, rfl, rfl⟩ rfl rfl rfl rfl rfl (by kernel_rfl) Try.func6 (by kernel_rfl)
    (of_decide_eq_true (by kernel_rfl)) (by unfold Func.isWrapper; first | (rw [if_pos (by decide +kernel)]; kernel_rfl) | (rw [if_neg (by decide +kernel)]; exact ⟨rfl, rfl⟩))
    (fun os started H enc _ => lifted os started H enc)
theorem proved : Rows.BagFullSaid := over
end Go.Proofs.Ytmgdnffniafbkaa.bagFull
