/- How many sectors bytes need, and the pieces of a range, are as the document says: InodePieces. -/
import Derived.Test.YtdlbibhekoobjaaRows
import Derived.Test.YtdlbibhekoobjaaIs14

namespace Go.Proofs.Ytdlbibhekoobjaa.inodePieces
open Go.RowKit Go.ChangeShapes Go.WideShapes Go.ChangeAt
open Go.ChangeMaps (open_string shut_string)

set_option maxRecDepth 100000 in
set_option maxHeartbeats 4000000 in
theorem walk (a0 a1 a2 : Int) (w : World) (h0 : (Lit.int .i64 a0).wf = true) (h1 : (Lit.int .i64 a1).wf = true) (h2 : (Lit.int .i64 a2).wf = true) :
    Calls Try.prog 5 #[.int .i64 a0, .int .i64 a1, .int .i64 a2] w fun e w' => e = .returned (.bool true) ∧ Below w.heap.size w w' := by
  obtain ⟨P, HP⟩ : ∃ x, Hid (pieces a1 a2 = x) := ⟨_, Lib.hid rfl⟩
  have hPl : P.length ≤ 12 := by rw [← HP.out]; exact pcs_length_le (clamp_le a1 a2).2
  obtain ⟨N, HN⟩ : ∃ x, Hid (needI a0 = x) := ⟨_, Lib.hid rfl⟩
  have H0 := Lib.hid h0
  have H1 := Lib.hid h1
  have H2 := Lib.hid h2
  clear h0 h1 h2
  go_enter Try.func5, Try.ntmps5
  go_wp2_with fail
  refine (awk14_any _).mono ?_
  rintro e w1 ⟨rfl, hb⟩
  have B1 := Lib.hid hb
  clear hb
  go_wp2_with fail
  refine (Pieces_any _ _ _).mono ?_
  rw [HP.out]
  rintro e w2 ⟨v, rfl, hr, _, hb⟩
  obtain ⟨A, c, he⟩ := hr.shape
  subst he
  have R2 := Lib.hid (hr.is encP_ok).1
  have B2 := Lib.hid (bnext B1.out hb)
  clear hr hb
  go_wp2_with fail
  refine (XPieces_any _ _ H1.out H2.out _).mono ?_
  rw [HP.out]
  rintro e w3 ⟨v, rfl, hr, _, hb⟩
  obtain ⟨A', c', he⟩ := hr.shape
  subst he
  have S3 := Lib.hid (hr.is encP_ok).1
  have R3 := Lib.hid (R2.out.below hb)
  have B3 := Lib.hid (bnext B2.out hb)
  clear hr hb
  obtain ⟨n, Hn⟩ : ∃ n, Hid (P.length = n) := ⟨_, Lib.hid rfl⟩
  rw [Hn.out] at R3 S3 hPl ⊢
  go_wp2_with fail
  refine (Need_any _ H0.out _).mono ?_
  rw [HN.out]
  rintro e w4 ⟨rfl, rfl⟩
  go_wp2_with fail
  refine (XNeed_any _ H0.out _).mono ?_
  rw [HN.out]
  rintro e w4 ⟨rfl, rfl⟩
  go_wp2_with fail
  go_loopw [10] (fun i wr => ∃ j q : Nat, j ≤ n ∧ i = .int .i64 j ∧ Hid (wr = w3.drewN q)) (fun i _ => n - (intOf i).toNat)
  case atStart => exact ⟨0, 0, Nat.zero_le _, rfl, Lib.hid rfl⟩
  case round =>
    obtain ⟨j, q, hj, rfl, Hwr⟩ := hrel
    have hwr := Hwr.out
    subst hwr
    by_cases hlt : j < n
    · have hltI : (j : Int) < (n : Int) := by omega
      obtain ⟨p, hp⟩ : ∃ p, P[j]? = some p := ⟨_, List.getElem?_eq_getElem (by rw [Hn.out]; exact hlt)⟩
      obtain ⟨g, off, rfl, c0, c1, c2⟩ := R3.out.piece hp
      obtain ⟨g', off', rfl, d0, d1, d2⟩ := S3.out.piece hp
      have hne := neq_pc (p.1 : Int) (p.2.1 : Int) (p.2.2 : Int)
      clear hp
      go_wp2_with fail
      go_quiet (fail)
      go_wp2
      go_roundw
      case rel => exact ⟨j + 1, _, by omega, by go_num, Lib.hid rfl⟩
      case measure => simp [intOf]; omega
    · obtain rfl : j = n := by omega
      have Hd := Lib.hid (below_drewN w3 q)
      go_wp2
      go_ret
      exact ⟨rfl, bnext B3.out Hd.out⟩
theorem own : ownKnob Try.prog.godebug = none := by kernel_rfl
theorem laidOut : laidOutB Try.prog = true := by kernel_rfl
set_option maxRecDepth 100000 in
theorem lifted (os : Os) (started : os.Started) (H : Type) (enc : TypeId × Value → H) :
    ReturnsInHanded {} Try.checked os 5 .any (Rows.inodePiecesSpec.pre6 enc Try.prog Try.f5 Rows.inodePiecesRow.domain false) (Rows.inodePiecesSpec.post enc Try.prog Try.f5 false true false false) := by
  refine returnsInHanded_of_change (C := Try.checked) own started (by kernel_rfl) Try.func5
    (ChangeSpec.witness6 (enc := enc) (C := Try.checked) false ⟨#[], #[.int .i64 0, .int .i64 0, .int .i64 0], []⟩ 8 (by kernel_rfl) (by kernel_rfl) (by kernel_rfl) (by kernel_rfl)) ?_
  intro W base args ds gs before hval0 hW hcnd _
  have hval : ∀ (j : Nat) t v, Try.f5.params[j]? = some t → args[j]? = some v → Value.okWide Try.prog W .any base t v := hval0
  have hW' := hW
  obtain ⟨p, q, hA0, hV, rfl, hfz, hnd⟩ := hW
  have hA : DataW.TrodAll enc Try.prog W 0 (fun _ => true) true Try.f5.params.toList args.toList ds p := hA0
  rw [Try.params5] at hA hval
  obtain ⟨v0, vs0, d0, ds0, p0, q0, hargs, rfl, rfl, h0, r0⟩ := trodAll_cons hA
  obtain ⟨v1, vs1, d1, ds1, p1, q1, rfl, rfl, rfl, h1, r1⟩ := trodAll_cons r0
  obtain ⟨v2, vs2, d2, ds2, p2, q2, rfl, rfl, rfl, h2, r2⟩ := trodAll_cons r1
  obtain ⟨rfl, rfl, rfl⟩ := trodAll_nil r2
  obtain rfl : args = #[v0, v1, v2] := by cases args; simp_all
  obtain ⟨a0, rfl, rfl, rfl, w0⟩ := open_int Try.underlying3 (hval 0 3 v0 rfl rfl) h0
  obtain ⟨a1, rfl, rfl, rfl, w1⟩ := open_int Try.underlying3 (hval 1 3 v1 rfl rfl) h1
  obtain ⟨a2, rfl, rfl, rfl, w2⟩ := open_int Try.underlying3 (hval 2 3 v2 rfl rfl) h2
  clear hA0 hval0
  refine (walk a0 a1 a2 W w0 w1 w2).mono fun e W' ⟨he, bel⟩ => ?_
  subst he
  exact ⟨_, rfl, law_post laidOut (by rw [Try.params5]; decide +kernel) rfl Try.underlying4 rfl hW' (fun _ => rfl) bel⟩
theorem over : Rows.inodePiecesRow.holds Try.pinned (OpenSpec.ofChange Rows.inodePiecesSpec) :=
  OpenClaim.holds_of_wide 5 Try.f5 rfl rfl rfl rfl rfl rfl rfl ⟨rfl, rfl, rfl, rfl, rfl⟩ rfl rfl rfl rfl rfl (by kernel_rfl) Try.func5 (by kernel_rfl)
    (of_decide_eq_true (by kernel_rfl)) (by unfold Func.isWrapper; first | (rw [if_pos (by decide +kernel)]; kernel_rfl) | (rw [if_neg (by decide +kernel)]; exact ⟨rfl, rfl⟩))
    (fun os started H enc _ => lifted os started H enc)
theorem proved : Rows.InodePiecesSaid := over
end Go.Proofs.Ytdlbibhekoobjaa.inodePieces
