/- Bytes are cut into sectors; put together again, and cut off, they are as they were; the pieces of any range are, one behind the other, its bytes: InodeCuts. -/
import Derived.Test.YtdlbibhekoobjaaRows
import Derived.Test.YtdlbibhekoobjaaIc14

namespace Go.Proofs.Ytdlbibhekoobjaa.inodeCuts
open Go.RowKit Go.ChangeShapes Go.WideShapes Go.ChangeAt
open Go.ChangeMaps (open_string shut_string)

set_option maxRecDepth 100000 in
set_option maxHeartbeats 4000000 in
theorem walk (a0 : List UInt8) (a1 a2 : Int) (w : World) (_ : a0.length ≤ maxLen) (h1 : (Lit.int .i64 a1).wf = true) (h2 : (Lit.int .i64 a2).wf = true) :
    Calls Try.prog 6 #[.string (str a0), .int .i64 a1, .int .i64 a2] w fun e w' => e = .returned (.bool true) ∧ Below w.heap.size w w' := by
  have hmx : IntKind.i64.max = 9223372036854775807 := by decide
  go_enter Try.func6, Try.ntmps6
  go_wp2_with fail
  refine (awk14_any _).mono ?_
  rintro e w1 ⟨rfl, hb⟩
  have B1 := Lib.hid hb
  clear hb
  go_upto_if 18 with fail
  go_cut [0] (fun s wx => ∃ t : List UInt8, t.length ≤ 2000 ∧ s = .string (str t) ∧ wx = w1)
  case first =>
    by_cases hlen : 2000 < a0.length
    · go_wp2_with fail
      go_meet
      case rel => exact ⟨a0.take 2000, by simp; omega, rfl, rfl⟩
    · go_wp2_with fail
      go_meet
      case rel => exact ⟨a0, by omega, rfl, rfl⟩
  case rest =>
  obtain ⟨s, hs, rfl, hwc⟩ := hcut
  have hws := hwc.symm; clear hwc; subst hws
  clear hmx
  obtain ⟨N, HN⟩ : ∃ N, Hid (cutN s.length = N) := ⟨_, Lib.hid rfl⟩
  have hN := cutN_le s.length
  rw [HN.out] at hN
  obtain ⟨hN0, hN1⟩ := hN
  obtain ⟨T, HT⟩ : ∃ T, Hid (padT s = T) := ⟨_, Lib.hid rfl⟩
  obtain ⟨L, HL⟩ : ∃ L, Hid (cutL s = L) := ⟨_, Lib.hid rfl⟩
  have HTl : Hid (T.length = 512 * N) := Lib.hid (by rw [← HT.out, padT_length, HN.out])
  have HLl : Hid (L.length = N) := Lib.hid (by rw [← HL.out, cutL_length, HN.out])
  have HLg : Hid (∀ k, k < N → L[k]? = some (secK T k)) := Lib.hid (fun k hk => by rw [← HL.out, ← HT.out]; exact cutL_get s (by rw [HN.out]; exact hk))
  have HTs : Hid (T.take s.length = s) := Lib.hid (by rw [← HT.out, padT, List.take_left' rfl])
  have HTz : Hid (∀ i (h : i < T.length), s.length ≤ i → T[i] = 0) := Lib.hid (fun i h hi => by
    have e : T = s ++ List.replicate (512 * cutN s.length - s.length) 0 := HT.out.symm
    subst e
    rw [List.getElem_append_right hi]; simp)
  have HKl : Hid (∀ k, k < N → (secK T k).length = 512) := Lib.hid (fun k hk => by rw [← HT.out]; exact secK_length (by rw [HN.out]; exact hk))
  have Hfl : Hid (∀ k, k ≤ N → T.take (512 * (k + 1)) = T.take (512 * k) ++ secK T k) := Lib.hid (fun k _ => by rw [secK, show 512 * (k + 1) = 512 * k + 512 by omega, List.take_add])
  go_wp2_with fail
  refine (Cut_any s (by omega) _).mono ?_
  rw [HL.out]
  rintro e w2 ⟨v, rfl, hr, _, hb⟩
  obtain ⟨A, c, he⟩ := hr.shape
  rw [HLl.out] at he
  subst he
  have R2 := Lib.hid (hr.is encT_ok).1
  have B2 := Lib.hid (bnext B1.out hb)
  clear hr hb
  have hN4 : N ≤ 4 := by omega
  go_wp2_with fail
  go_loopw [9, 10] (fun a i wr => ∃ k : Nat, k ≤ N ∧ a = .string (str (T.take (512 * k))) ∧ i = .int .i64 k ∧ wr = w2) (fun _ i _ => N - (intOf i).toNat)
  case atStart => exact ⟨0, Nat.zero_le _, by rw [Nat.mul_zero, List.take_zero]; rfl, rfl, rfl⟩
  case round =>
    obtain ⟨k, hk, rfl, rfl, hwr⟩ := hrel
    have hws := hwr.symm; clear hwr; subst hws
    by_cases hlt : k < N
    · have hltI : (k : Int) < (N : Int) := by omega
      obtain ⟨g, off, rfl, c0⟩ := R2.out.text (HLg.out k hlt)
      obtain ⟨S, HS⟩ : ∃ S, Hid (secK T k = S) := ⟨_, Lib.hid rfl⟩
      have hSl : S.length = 512 := by rw [← HS.out]; exact HKl.out k hlt
      rw [HS.out] at c0
      have hfl := Hfl.out k (by omega)
      rw [HS.out] at hfl
      have Hf2 := Lib.hid hfl
      obtain ⟨Q, HQ⟩ : ∃ Q, Hid (T.take (512 * k) = Q) := ⟨_, Lib.hid rfl⟩
      have hQl : Q.length = 512 * k := by rw [← HQ.out, List.length_take, HTl.out]; omega
      have hQl2 : Q.length ≤ 2048 := by omega
      rw [HQ.out] at Hf2 ⊢
      clear hfl hQl
      go_wp2
      go_roundw
      case rel => exact ⟨k + 1, by omega, by rw [Hf2.out], by go_num, by first | rfl | trivial⟩
      case measure => simp [intOf]; omega
    · have hkN : k = N := by omega
      have hltI : ¬ (k : Int) < (N : Int) := by omega
      have Hall : Hid (T.take (512 * k) = T) := Lib.hid (List.take_of_length_le (by rw [HTl.out]; omega))
      rw [Hall.out]
      have Hneed : Hid (needI (s.length : Int) = (N : Int)) := Lib.hid (by rw [needI_cut (by omega), HN.out])
      have hwfl : (Lit.int .i64 (s.length : Int)).wf = true := by
        have e2 : IntKind.i64.min = -9223372036854775808 := by decide
        have e3 : IntKind.i64.max = 9223372036854775807 := by decide
        simp [Lit.wf, e2, e3]; omega
      have Hwfl := Lib.hid hwfl
      have hTl : T.length = 512 * N := HTl.out
      have hTl2 : s.length ≤ T.length := by omega
      have hTl3 : T.length ≤ 2048 := by omega
      clear hwfl hTl hkN
      have hTs : (T.take s.length == s) = true := by rw [HTs.out]; simp
      go_wp2_with fail
      refine (Need_any _ Hwfl.out _).mono ?_
      rw [Hneed.out]
      rintro e w3 ⟨rfl, rfl⟩
      go_wp2_with fail
      go_loopw [11] (fun i wr => ∃ j : Nat, s.length ≤ j ∧ j ≤ T.length ∧ i = .int .i64 j ∧ wr = w2) (fun i _ => T.length - (intOf i).toNat)
      case atStart => exact ⟨s.length, Nat.le_refl _, hTl2, rfl, rfl⟩
      case round =>
        obtain ⟨j, hj0, hj1, rfl, hwr⟩ := hrel
        have hws := hwr.symm; clear hwr; subst hws
        by_cases hltj : j < T.length
        · have hltJ : (j : Int) < (T.length : Int) := by omega
          have hz := HTz.out j hltj hj0
          have hz2 : ((T[j].toNat : Nat) : Int) = 0 := by rw [hz]; rfl
          clear hz
          go_wp2
          go_roundw
          case rel => exact ⟨j + 1, by omega, by omega, by go_num, by first | rfl | trivial⟩
          case measure => simp [intOf]; omega
        · have hltJ : ¬ (j : Int) < (T.length : Int) := by omega
          by_cases hf0 : a1 < 0
          · go_wp2
            go_ret
            exact ⟨rfl, B2.out⟩
          by_cases hft : a2 < a1
          · go_wp2
            go_ret
            exact ⟨rfl, B2.out⟩
          by_cases htl : (s.length : Int) < a2
          · go_wp2
            go_ret
            exact ⟨rfl, B2.out⟩
          obtain ⟨f, rfl⟩ := Int.eq_ofNat_of_zero_le (show 0 ≤ a1 by omega)
          obtain ⟨t, rfl⟩ := Int.eq_ofNat_of_zero_le (show 0 ≤ a2 by omega)
          have hft2 : f ≤ t := by omega
          have htl2 : t ≤ s.length := by omega
          have Hpq : Hid (pieces (f : Int) (t : Int) = pcs f t) := Lib.hid (by rw [pieces]; congr 1 <;> (try unfold clampT) <;> unfold clampF <;> omega)
          have HCh : Hid (Chain f t (pcs f t)) := Lib.hid (pcs_chain (by omega))
          have hL1 := pcs_length_le (f := f) (t := t) (by omega)
          obtain ⟨P, HP⟩ : ∃ x, Hid (pcs f t = x) := ⟨_, Lib.hid rfl⟩
          rw [HP.out] at Hpq HCh hL1
          go_wp2_with fail
          refine (Pieces_any _ _ _).mono ?_
          rw [Hpq.out]
          rintro e w4 ⟨v, rfl, hr, _, hb⟩
          obtain ⟨A4, c4, he⟩ := hr.shape
          obtain ⟨n, Hn⟩ : ∃ n, Hid (P.length = n) := ⟨_, Lib.hid rfl⟩
          rw [Hn.out] at he hL1
          subst he
          have R4 := Lib.hid (hr.is encP_ok).1
          have R24 := Lib.hid (R2.out.below hb)
          have B4 := Lib.hid (bnext B2.out hb)
          clear hr hb
          go_wp2_with fail
          go_loopw [12, 14] (fun a i wr => ∃ j pos q' : Nat, j ≤ n ∧ f ≤ pos ∧ a = .string (str ((T.drop f).take (pos - f))) ∧ i = .int .i64 j ∧ Hid (Chain pos t (P.drop j)) ∧ Hid (wr = w4.drewN q')) (fun _ i _ => n - (intOf i).toNat)
          case atStart => exact ⟨0, f, 0, Nat.zero_le _, Nat.le_refl _, by rw [Nat.sub_self, List.take_zero]; rfl, rfl, Lib.hid HCh.out, Lib.hid rfl⟩
          case round =>
            obtain ⟨j2, pos, q', hj2, hpos, rfl, rfl, HCj, Hwr⟩ := hrel
            have hwr := Hwr.out
            subst hwr
            by_cases hltj2 : j2 < n
            · have hltJ2 : (j2 : Int) < (n : Int) := by omega
              obtain ⟨⟨i3, a3, b3⟩, hp⟩ : ∃ p, P[j2]? = some p := ⟨_, List.getElem?_eq_getElem (by rw [Hn.out]; exact hltj2)⟩
              obtain ⟨g, off, rfl, e0, e1, e2⟩ := R4.out.piece hp
              have hd : P.drop j2 = (i3, a3, b3) :: P.drop (j2 + 1) := by
                obtain ⟨hk', he⟩ := List.getElem?_eq_some_iff.1 hp
                rw [List.drop_eq_getElem_cons hk', he]
              have hch := HCj.out
              rw [hd] at hch
              obtain ⟨h1, h2, h3, h4⟩ := hch
              have h5 := h4.le
              have HC4 := Lib.hid h4
              obtain ⟨e9, He9⟩ : ∃ z, Hid (512 * i3 + b3 = z) := ⟨_, Lib.hid rfl⟩
              rw [He9.out] at HC4 h5
              have he9 := He9.out
              have hiN : i3 < N := by omega
              obtain ⟨g2, off2, rfl, d0⟩ := R24.out.text (HLg.out i3 hiN)
              obtain ⟨S, HS⟩ : ∃ S, Hid (secK T i3 = S) := ⟨_, Lib.hid rfl⟩
              have hSl : S.length = 512 := by rw [← HS.out]; exact HKl.out i3 hiN
              rw [HS.out] at d0
              obtain ⟨X, HX⟩ : ∃ X, Hid ((S.drop a3).take (b3 - a3) = X) := ⟨_, Lib.hid rfl⟩
              obtain ⟨G, HG⟩ : ∃ G, Hid ((T.drop f).take (pos - f) = G) := ⟨_, Lib.hid rfl⟩
              have HGX : Hid (G ++ X = (T.drop f).take (e9 - f)) := Lib.hid (by
                rw [← HG.out, ← HX.out, ← HS.out, secK, show e9 - f = (pos - f) + (e9 - pos) by omega, List.take_add, List.drop_take, List.drop_drop, List.drop_drop, List.take_take]
                congr 2
                · omega
                · congr 1; omega)
              have hGl : G.length ≤ 2048 := by rw [← HG.out, List.length_take, List.length_drop]; omega
              have hXl : X.length ≤ 512 := by rw [← HX.out, List.length_take, List.length_drop, hSl]; omega
              have hsum : ¬ 9223372036854775807 < G.length + X.length := by omega
              have hI0 : (i3 : Int) < (N : Int) := by omega
              have hI1 : ¬ (b3 : Int) ≤ (a3 : Int) := by omega
              have hJ1 : ¬ b3 ≤ a3 := by omega
              have hJ2 : a3 < b3 := by omega
              have hJ3 : (b3 : Int) - (a3 : Int) = ((b3 - a3 : Nat) : Int) := by omega
              have hI2 : ¬ (512 : Int) < (b3 : Int) := by omega
              have hI3 : (a3 : Int) ≤ (b3 : Int) := by omega
              have hI4 : (b3 : Int) ≤ (512 : Int) := by omega
              have hX := HX.out
              have hpe : f ≤ e9 := by omega
              rw [HG.out]
              clear hp hd h1 h2 h3 h4
              go_wp2_with fail
              go_quiet (fail)
              go_wp2_with fail
              go_quiet (fail)
              go_wp2
              go_roundw
              case rel => exact ⟨j2 + 1, e9, _, by omega, by omega, by rw [HGX.out], by go_num, HC4, Lib.hid rfl⟩
              case measure => simp [intOf]; omega
            · have hjn : n ≤ j2 := by omega
              have hltJ2 : ¬ (j2 : Int) < (n : Int) := by omega
              have hpr : pos = t := by
                have := HCj.out
                rw [List.drop_eq_nil_of_le (by rw [Hn.out]; exact hjn)] at this
                exact this
              have Hend : Hid ((T.drop f).take (pos - f) = (s.drop f).take (t - f)) := Lib.hid (by
                rw [hpr]
                conv => rhs; rw [← HTs.out, List.drop_take, List.take_take]
                congr 1; omega)
              rw [Hend.out]
              have BE := Lib.hid (bnext B4.out (below_drewN w4 q'))
              have hI3 : (f : Int) ≤ (t : Int) := by omega
              have hI4 : (t : Int) ≤ (s.length : Int) := by omega
              clear hpr
              go_wp2
              go_ret
              exact ⟨rfl, BE.out⟩
theorem own : ownKnob Try.prog.godebug = none := by kernel_rfl
theorem laidOut : laidOutB Try.prog = true := by kernel_rfl
set_option maxRecDepth 100000 in
theorem lifted (os : Os) (started : os.Started) (H : Type) (enc : TypeId × Value → H) :
    ReturnsInHanded {} Try.checked os 6 .any (Rows.inodeCutsSpec.pre6 enc Try.prog Try.f6 Rows.inodeCutsRow.domain false) (Rows.inodeCutsSpec.post enc Try.prog Try.f6 false true false false) := by
  refine returnsInHanded_of_change (C := Try.checked) own started (by kernel_rfl) Try.func6
    (ChangeSpec.witness6 (enc := enc) (C := Try.checked) false ⟨#[], #[.string ByteArray.empty, .int .i64 0, .int .i64 0], []⟩ 8 (by kernel_rfl) (by kernel_rfl) (by kernel_rfl) (by kernel_rfl)) ?_
  intro W base args ds gs before hval0 hW hcnd _
  have hval : ∀ (j : Nat) t v, Try.f6.params[j]? = some t → args[j]? = some v → Value.okWide Try.prog W .any base t v := hval0
  have hW' := hW
  obtain ⟨p, q, hA0, hV, rfl, hfz, hnd⟩ := hW
  have hA : DataW.TrodAll enc Try.prog W 0 (fun _ => true) true Try.f6.params.toList args.toList ds p := hA0
  rw [Try.params6] at hA hval
  obtain ⟨v0, vs0, d0, ds0, p0, q0, hargs, rfl, rfl, h0, r0⟩ := trodAll_cons hA
  obtain ⟨v1, vs1, d1, ds1, p1, q1, rfl, rfl, rfl, h1, r1⟩ := trodAll_cons r0
  obtain ⟨v2, vs2, d2, ds2, p2, q2, rfl, rfl, rfl, h2, r2⟩ := trodAll_cons r1
  obtain ⟨rfl, rfl, rfl⟩ := trodAll_nil r2
  obtain rfl : args = #[v0, v1, v2] := by cases args; simp_all
  obtain ⟨s0, rfl, rfl, rfl, w0⟩ := open_string Try.underlying9 (hval 0 9 v0 rfl rfl) h0
  obtain ⟨a0, rfl⟩ := str_of s0
  rw [str_size] at w0
  obtain ⟨a1, rfl, rfl, rfl, w1⟩ := open_int Try.underlying3 (hval 1 3 v1 rfl rfl) h1
  obtain ⟨a2, rfl, rfl, rfl, w2⟩ := open_int Try.underlying3 (hval 2 3 v2 rfl rfl) h2
  clear hA0 hval0
  refine (walk a0 a1 a2 W w0 w1 w2).mono fun e W' ⟨he, bel⟩ => ?_
  subst he
  exact ⟨_, rfl, law_post laidOut (by rw [Try.params6]; decide +kernel) rfl Try.underlying4 rfl hW' (fun _ => rfl) bel⟩
theorem over : Rows.inodeCutsRow.holds Try.pinned (OpenSpec.ofChange Rows.inodeCutsSpec) :=
  OpenClaim.holds_of_wide 6 Try.f6 rfl rfl rfl rfl rfl rfl rfl ⟨rfl, rfl, rfl, rfl, rfl⟩ rfl rfl rfl rfl rfl (by kernel_rfl) Try.func6 (by kernel_rfl)
    (of_decide_eq_true (by kernel_rfl)) (by unfold Func.isWrapper; first | (rw [if_pos (by decide +kernel)]; kernel_rfl) | (rw [if_neg (by decide +kernel)]; exact ⟨rfl, rfl⟩))
    (fun os started H enc _ => lifted os started H enc)
theorem proved : Rows.InodeCutsSaid := over
end Go.Proofs.Ytdlbibhekoobjaa.inodeCuts
