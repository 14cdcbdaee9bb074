/- A record of as many changes as there is room for is made, one more is refused; its sectors lie behind the head, below the size, the mark at the last one. -/
import Derived.Test.YtgncmgchoogmpaaDoorJx11

namespace Go.Proofs.YtgncmgchoogmpaaDoor.journalBounds
open Go.RowKit Go.ChangeShapes Go.WideShapes Go.ChangeAt
open Go.ChangeMaps (open_string shut_string)

theorem tmod_bd (a : Int) (m : Nat) (hm : 0 < m) : -(m : Int) < a.tmod m ∧ a.tmod m < m := by
  have h := Int.natAbs_tmod a m
  have h2 : (a.tmod m).natAbs < m := by rw [h]; exact Nat.mod_lt _ (by simpa using hm)
  omega
def chB (i : Nat) : Ch := (7 * (i : Int), secS (i : Int))
def blB (k : Nat) : List Ch := (List.range k).map chB
theorem blB_succ (k : Nat) : blB (k + 1) = blB k ++ [chB k] := by simp [blB, List.range_succ]
theorem blB_length (k : Nat) : (blB k).length = k := by simp [blB]
theorem blB_row (k : Nat) (h : k ≤ 62) : rowB (blB k) = true := by
  rw [rowB_iff]
  refine ⟨fun c hc => ?_, ?_⟩
  · simp only [blB, List.mem_map, List.mem_range] at hc
    obtain ⟨i, hi, rfl⟩ := hc
    exact ⟨by show (0 : Int) ≤ 7 * (i : Int); omega, by show 7 * (i : Int) < 65536; omega, secS_length _⟩
  · rw [blB, List.pairwise_map]
    exact List.pairwise_lt_range.imp (fun {a b} hab => by show 7 * (a : Int) < 7 * (b : Int); omega)
set_option maxRecDepth 100000 in
set_option maxHeartbeats 4000000 in
theorem walk (a0 a1 : Int) (w : World) (_ : (Lit.int .i64 a0).wf = true) (_ : (Lit.int .i64 a1).wf = true) (hT : Tab w) :
    Calls Tryd.prog 7 #[.int .i64 a0, .int .i64 a1] w fun e w' => e = .returned (.bool true) ∧ Below w.heap.size w w' := by
  have HT := Lib.hid hT
  clear hT
  obtain ⟨r0, Hr0⟩ : ∃ r, Hid (a0.tmod 60 = r) := ⟨_, Lib.hid rfl⟩
  obtain ⟨r1, Hr1⟩ : ∃ r, Hid (a1.tmod 63 = r) := ⟨_, Lib.hid rfl⟩
  have hb0 : -60 < r0 ∧ r0 < 60 := by have := tmod_bd a0 60 (by omega); rw [show ((60 : Nat) : Int) = 60 from rfl, Hr0.out] at this; exact this
  have hb1 : -63 < r1 ∧ r1 < 63 := by have := tmod_bd a1 63 (by omega); rw [show ((63 : Nat) : Int) = 63 from rfl, Hr1.out] at this; exact this
  obtain ⟨b00, b01⟩ := hb0
  obtain ⟨b10, b11⟩ := hb1
  have hr0 := Hr0.out
  have hr1 := Hr1.out
  go_enter Tryd.func7, Tryd.ntmps7
  go_wp2_with fail
  refine (awake_any _ HT.out).mono ?_
  rintro e w1 ⟨rfl, hb1⟩
  have B1 := Lib.hid hb1
  clear hb1
  go_upto_if 18 with fail
  go_cut [6] (fun s wx => ∃ v : Nat, v < 60 ∧ s = .int .i64 v ∧ wx = w1)
  case first =>
    by_cases hneg : r0 < 0
    · go_wp2_with fail
      go_meet
      case rel => exact ⟨(-r0).toNat, by omega, by go_num, rfl⟩
    · go_wp2_with fail
      go_meet
      case rel => exact ⟨r0.toNat, by omega, by go_num, rfl⟩
  case rest =>
  obtain ⟨v, hv, rfl, rfl⟩ := hcut
  clear hr0 Hr0 b00 b01
  go_upto_if 26 with fail
  go_cut [7] (fun s wx => ∃ k : Nat, k < 63 ∧ s = .int .i64 k ∧ wx = wc)
  case first =>
    by_cases hneg : r1 < 0
    · go_wp2_with fail
      go_meet
      case rel => exact ⟨(-r1).toNat, by omega, by go_num, rfl⟩
    · go_wp2_with fail
      go_meet
      case rel => exact ⟨r1.toNat, by omega, by go_num, rfl⟩
  case rest =>
  obtain ⟨k, hk, rfl, rfl⟩ := hcut
  clear hr1 Hr1 b10 b11
  go_wp2_with fail
  obtain ⟨N, HN⟩ : ∃ N : Nat, Hid ((v : Int) + 4 = (N : Int)) := ⟨v + 4, Lib.hid rfl⟩
  have hN4 : 4 ≤ N := by have := HN.out; omega
  have hN63 : N ≤ 63 := by have := HN.out; omega
  rw [HN.out]
  clear HN hv
  go_loopw [8, 9] (fun s i wr => ∃ (j : Nat) (T : Value), j ≤ k ∧ i = .int .i64 j ∧ s = T ∧ Hid (RG wr 2 encC T (blB j)) ∧ Hid (∀ g, blk T = some g → w.heap.size ≤ g) ∧ Hid (Below w.heap.size w wr)) (fun _ i _ => k - (intOf i).toNat)
  case atStart => exact ⟨0, .slice none 0 0, Nat.zero_le _, rfl, rfl, Lib.hid (RG.nil _ _ _), Lib.hid (fun g hg => by cases hg), B1⟩
  case round =>
    obtain ⟨j, T, hj, rfl, rfl, HR, HNw, HB⟩ := hrel
    by_cases hlt : j < k
    · have hjI : (j : Int) < (k : Int) := by omega
      have hcv : IntKind.u8.wrap (j : Int) = (j : Int) := IntWalk.u8_in _ (by omega)
      have hmul : IntKind.i64.wrap (7 * (j : Int)) = 7 * (j : Int) := IntWalk.i64_in _ (by omega)
      go_wp2_with fail
      refine (sector_any _ _).mono ?_
      obtain ⟨S, HS⟩ : ∃ x, Hid (secS (j : Int) = x) := ⟨_, Lib.hid rfl⟩
      rw [HS.out]
      rintro e w4 ⟨rfl, hb4⟩
      have B4 := Lib.hid hb4
      clear hb4
      obtain ⟨w5, HW5⟩ : ∃ y, Hid (w4.alloc (.cells #[.int .i64 (7 * (j : Int)), .string (str S)] 32) = y) := ⟨_, Lib.hid rfl⟩
      obtain ⟨p5, Hp5⟩ : ∃ y, Hid (w4.heap.size = y) := ⟨_, Lib.hid rfl⟩
      have B5 : Hid (Below wr.heap.size wr w5) := Lib.hid (bnext B4.out (by rw [← HW5.out]; exact balloc (Below.refl _ _) _))
      have G5 : Hid (IsG w5 2 encC (some ⟨p5, 0, none⟩) 1 [(7 * (j : Int), S)]) := Lib.hid (by rw [← HW5.out, ← Hp5.out]; exact ch_one w4 (7 * (j : Int), S) _)
      obtain ⟨T6, w6, hr6, r6, a6⟩ := appG chInf encC_ok (HR.out.below B5.out) (c := 1) G5.out (by rw [blB_length]; omega) (by decide) 30
      have Hr6 := Lib.hid hr6
      have HB6 : Hid (Below w.heap.size w w6) := Lib.hid (Mod.below (bnext HB.out B5.out) a6.mod (bnext HB.out B5.out).size HNw.out)
      have HR6 : Hid (RG w6 2 encC T6 (blB (j + 1))) := Lib.hid (by rw [blB_succ, chB, HS.out]; exact r6)
      have HN6 : Hid (∀ g, blk T6 = some g → w.heap.size ≤ g) := Lib.hid (fun g hg => by
        rcases a6.blk with e | ⟨g', e, h'⟩
        · exact HNw.out g (e ▸ hg)
        · rw [e] at hg; injection hg with hg; have := HB.out.size; have := B5.out.size; omega)
      clear hr6 r6 a6
      go_wp2_with (at_builtin; rw [HW5.out, Hp5.out]; refine wpList_append_run rfl (.tmp 34) (.tmp 41) 30 rfl (by exact Hr6.out) ?_)
      go_roundw
      case rel => exact ⟨j + 1, T6, by omega, by go_num, rfl, HR6, HN6, HB6⟩
      case measure => simp [intOf]; omega
    · obtain rfl : j = k := by omega
      have hjI : ¬ (j : Int) < (j : Int) := by omega
      obtain ⟨A, c, e⟩ := HR.out.shape
      rw [blB_length] at e
      subst e
      have GL := Lib.hid (HR.out.is encC_ok).1
      have hrow := Lib.hid (blB_row j (by omega))
      go_wp2_with fail
      refine (jRecord_any N 5 A j c (blB j) wr GL.out (HT.out.below HB.out) (by omega)).mono ?_
      rintro e w2 ⟨B, m, d, rfl, g2, _, _, _, hb2⟩
      obtain ⟨E, HE⟩ : ∃ x, Hid (recE N 5 (blB j) = x) := ⟨_, Lib.hid rfl⟩
      obtain ⟨M, HM⟩ : ∃ x, Hid (recM N 5 (blB j) = x) := ⟨_, Lib.hid rfl⟩
      obtain ⟨L, HL⟩ : ∃ x, Hid (recL N 5 (blB j) = x) := ⟨_, Lib.hid rfl⟩
      rw [HE.out, HM.out]
      rw [HL.out] at g2
      obtain ⟨w3, HW3⟩ : ∃ x, Hid (w2.alloc (.cells #[.int .i64 M.1, .string (str M.2)] 32) = x) := ⟨_, Lib.hid rfl⟩
      obtain ⟨p, Hp⟩ : ∃ x, Hid (w2.heap.size = x) := ⟨_, Lib.hid rfl⟩
      have G3 : Hid (IsG w3 2 encC B m L) := Lib.hid (g2.below (by rw [← HW3.out]; exact balloc (Below.refl _ _) _))
      have K3 : Hid (ChAt w3 p M) := Lib.hid (by rw [← HW3.out, ← Hp.out]; exact ChAt.new w2 M _)
      have B3 : Hid (Below w.heap.size w w3) := Lib.hid (by rw [← HW3.out]; exact balloc (bnext HB.out hb2) _)
      clear g2 hb2 HR HNw GL
      rcases Nat.eq_zero_or_pos j with h0 | h0
      · have hE1 : E = 1 := by rw [← HE.out, recE, if_pos (.inr (.inr (.inl (List.eq_nil_of_length_eq_zero (by rw [blB_length]; exact h0)))))]
        subst hE1 h0
        clear HE HM HL
        go_wp2
        go_ret
        exact ⟨rfl, by first | exact B3.out | (rw [HW3.out]; exact B3.out)⟩
      · have hj0 : ((j : Int) == 0) = false := by simp; omega
        have hnil : blB j ≠ [] := fun e => by have := blB_length j; rw [e] at this; simp at this; omega
        by_cases hroom : roomI N < (j : Int)
        · have hE1 : E = 15 := by
            rw [← HE.out, recE, if_neg (by simp only [not_or, Bool.not_eq_false]; exact ⟨by omega, by omega, hnil, hrow.out⟩), if_pos (by rw [blB_length]; exact hroom)]
          have hm0 : m = 0 := by
            have := G3.out.length
            rw [← HL.out, recL, if_neg (by rw [HE.out, hE1]; omega)] at this
            exact this.symm
          subst hE1 hm0
          clear HE HM HL hnil
          go_wp2_with fail
          rw [HW3.out, Hp.out]
          refine (jRoom_any _ _).mono ?_
          rintro e w4 ⟨rfl, rfl⟩
          go_wp2
          go_ret
          exact ⟨rfl, B3.out⟩
        · have hroom' : (j : Int) ≤ roomI N := by omega
          have hE0 : recE N 5 (blB j) = 0 := recE_of (by omega) (by omega) hnil hrow.out (by rw [blB_length]; exact hroom')
          have hE1 : E = 0 := by rw [← HE.out]; exact hE0
          have hM : Hid (M = ((N : Int) - 1, markS 5 (blB j))) := Lib.hid (by rw [← HM.out, recM, if_pos hE0]; rfl)
          have hLs : Hid (L = numbered 1 (textsS 5 (blB j))) := Lib.hid (by rw [← HL.out, recL, if_pos hE0]; rfl)
          have hml : m = j + 1 := by
            have := G3.out.length
            rw [hLs.out, numbered_length, textsS, List.length_cons, List.length_map, blB_length] at this
            exact this.symm
          subst hE1 hml
          clear HE HM HL hnil
          go_wp2_with fail
          rw [HW3.out, Hp.out]
          refine (jRoom_any _ _).mono ?_
          rintro e w4 ⟨rfl, rfl⟩
          obtain ⟨g, off, rfl, hg, hc⟩ := G3.out.cells (by omega)
          have hcell : ∀ i, i < j + 1 → ∃ S : List UInt8, S.length = 512 ∧ w3.cell? ⟨g, off + i * 2, none⟩ = some (.int .i64 ((i : Int) + 1)) ∧ w3.cell? ⟨g, off + i * 2 + 1, none⟩ = some (.string (str S)) := fun i hi => by
            have hts : (textsS 5 (blB j)).length = j + 1 := by rw [textsS, List.length_cons, List.length_map, blB_length]
            obtain ⟨S, hS⟩ : ∃ S, (textsS 5 (blB j))[i]? = some S := ⟨_, List.getElem?_eq_getElem (by omega)⟩
            have hn := numbered_get (textsS 5 (blB j)) 1 i S hS
            rw [← hLs.out] at hn
            refine ⟨S, ?_, ?_, hc i _ 1 _ hn rfl⟩
            · have hmem := List.mem_of_getElem? hS
              rw [textsS] at hmem
              rcases List.mem_cons.1 hmem with rfl | hmem
              · exact firstS_length _ _ (by rw [blB_length]; have := roomI_le N; omega)
              · obtain ⟨c, hcm, rfl⟩ := List.mem_map.1 hmem
                exact (rowB_of hrow.out c hcm).2.2
            · have := hc i _ 0 _ hn rfl
              rw [Nat.add_zero, show (1 : Int) + (i : Int) = (i : Int) + 1 by omega] at this
              exact this
          have Hcell := Lib.hid hcell
          have t0 := K3.out.c0
          have t1 := K3.out.c1
          rw [hM.out] at t0 t1
          have hmk : Hid ((markS 5 (blB j)).length = 512) := Lib.hid (markS_length _ _)
          obtain ⟨MK, HMK⟩ : ∃ x, Hid (markS 5 (blB j) = x) := ⟨_, Lib.hid rfl⟩
          rw [HMK.out] at t1 hmk
          have hmk2 : ((MK.length : Int) == 512) = true := by rw [hmk.out]; rfl
          have hwn : IntKind.i64.wrap ((N : Int) - 1) = (N : Int) - 1 := IntWalk.i64_in _ (by omega)
          have hN1 : (j : Int) + 1 < (N : Int) - 1 := by unfold roomI at hroom'; omega
          simp only at t0
          clear hc hcell K3 hM hLs HMK hg
          go_wp2_with fail
          go_loopw [13] (fun s wx => ∃ i : Nat, i ≤ j + 1 ∧ s = .int .i64 i ∧ wx = w3) (fun s _ => j + 1 - (intOf s).toNat)
          case atStart => exact ⟨0, Nat.zero_le _, rfl, rfl⟩
          case round =>
            obtain ⟨i, hi, rfl, hwx⟩ := hrel
            have hwx' := hwx.symm
            clear hwx
            subst hwx'
            by_cases hlt2 : i < j + 1
            · have hiI : (i : Int) < (j : Int) + 1 := by omega
              obtain ⟨S, hS, c0, c1⟩ := Hcell.out i hlt2
              have q3 : ((S.length : Int) != 512) = false := by rw [hS]; rfl
              have q4 : (((i : Int) + 1) != ((i : Int) + 1)) = false := by simp
              clear hS
              go_wp2
              go_roundw
              case rel => exact ⟨i + 1, by omega, by go_num, by first | rfl | trivial⟩
              case measure => simp [intOf]; omega
            · obtain rfl : i = j + 1 := by omega
              have hiI : ¬ ((j + 1 : Nat) : Int) < (j : Int) + 1 := by omega
              go_wp2
              go_ret
              exact ⟨rfl, B3.out⟩
set_option maxRecDepth 100000 in
theorem lifted (os : Os) (started : os.Started) (H : Type) (enc : TypeId × Value → H) :
    ReturnsInHanded {} Tryd.checked os 7 .any (fun w args => (Rows.journalBoundsSpec.pre enc Tryd.prog Tryd.f7 [] false w args ∧ laidMetH Tryd.prog laidT w) ∧ sizedMet enc Tryd.prog Tryd.f7 (OpenSpec.ofChange Rows.journalBoundsSpec) false w args)
      (Rows.journalBoundsSpec.post enc Tryd.prog Tryd.f7 false true false false) := by
  refine returnsInHanded_of_change_and (C := Tryd.checked) (X := fun w _ => laidMetH Tryd.prog laidT w) (fun _ _ _ hh h => h.of_heap hh) own started (by kernel_rfl) Tryd.func7
    (ChangeSpec.witness_shaped (enc := enc) (C := Tryd.checked) (os := os) (X := fun w _ => laidMetH Tryd.prog laidT w) false (World.doorLaid Tryd.prog 400 os) #[.int .i64 0, .int .i64 0] 8 rfl (World.shaped_of_RefB (by kernel_rfl) (by kernel_rfl)) (by kernel_rfl) (by kernel_rfl) (by kernel_rfl) (door_met os _)) ?_
  intro W base args ds gs before hval0 hW _ _ hL _
  have hval : ∀ (j : Nat) t v, Tryd.f7.params[j]? = some t → args[j]? = some v → Value.okWide Tryd.prog W .any base t v := hval0
  have hW' := hW
  obtain ⟨p, q, hA0, hV, rfl, hfz, hnd⟩ := hW
  have hA : DataW.TrodAll enc Tryd.prog W 0 (fun _ => true) true Tryd.f7.params.toList args.toList ds p := hA0
  rw [Tryd.params7] at hA hval
  obtain ⟨v0, vs0, d0, ds0, p0, q0, hargs, rfl, rfl, h0, r0⟩ := trodAll_cons hA
  obtain ⟨v1, vs1, d1, ds1, p1, q1, rfl, rfl, rfl, h1, r1⟩ := trodAll_cons r0
  obtain ⟨rfl, rfl, rfl⟩ := trodAll_nil r1
  obtain rfl : args = #[v0, v1] := by cases args; simp_all
  obtain ⟨a0, rfl, rfl, rfl, w0⟩ := open_int Tryd.underlying3 (hval 0 3 v0 rfl rfl) h0
  obtain ⟨a1, rfl, rfl, rfl, w1⟩ := open_int Tryd.underlying3 (hval 1 3 v1 rfl rfl) h1
  clear hA0 hval0
  refine (walk a0 a1 W w0 w1 (tab_of_laid hL)).mono fun e W' ⟨he, bel⟩ => ?_
  subst he
  exact ⟨_, rfl, law_post laidOut (by rw [Tryd.params7]; decide +kernel) rfl Tryd.underlying4 rfl hW' (fun _ => rfl) bel⟩
theorem over : Rows.journalBoundsRow.holds Tryd.pinned (OpenSpec.ofChange Rows.journalBoundsSpec) :=
  OpenClaim.holds_of_wide 7 Tryd.f7 rfl rfl rfl rfl rfl rfl rfl ⟨rfl, rfl, rfl, rfl, rfl⟩ rfl rfl rfl rfl rfl (by kernel_rfl) Tryd.func7 (by kernel_rfl)
    (of_decide_eq_true (by kernel_rfl)) (by unfold Func.isWrapper; first | (rw [if_pos (by decide +kernel)]; kernel_rfl) | (rw [if_neg (by decide +kernel)]; exact ⟨rfl, rfl⟩))
    (fun os started H enc _ => lifted os started H enc)
theorem proved : Rows.JournalBoundsCardSaid :=
  Claim7.holds_tied_plain_at .later [] [.data] true Rows.journalBoundsCard.stood.harness false over (fun _ h => by cases h) (by kernel_rfl) (fun _ h => by cases h) journalBounds_row_tie rfl ⟨rfl, rfl⟩ (by kernel_rfl) rfl
    (fun f fn hf hfn => by
      obtain rfl : f = 7 := Option.some.inj ((show Tryd.prog.funcNamed "lockgate/lockgatelaw11.JournalBounds" = some 7 by kernel_rfl).symm.trans hf) |>.symm
      obtain rfl : fn = Tryd.f7 := (Option.some.inj (Tryd.func7.symm.trans hfn)).symm
      exact ⟨by kernel_rfl, fun j t ht => by
        rw [Tryd.params7] at ht
        have hm : t ∈ [3, 3] := by simpa using Array.mem_of_getElem? ht
        have hall : ([3, 3].all fun u => !Tryd.prog.wantsStandIn u) = true := by kernel_rfl
        exact (show Tryd.prog.wantsStandIn t = false by simpa using List.all_eq_true.1 hall t hm)⟩)
    (by kernel_rfl)
end Go.Proofs.YtgncmgchoogmpaaDoor.journalBounds
