/- What the document's Record of layer 11 gives, at this translation. -/
import Derived.Test.YtgncmgchoogmpaaDoorRl11
namespace Go.Proofs.YtgncmgchoogmpaaDoor
open Go.RowKit

theorem RG.oneC (w : World) (c : Ch) (t : TypeId) : RG (w.alloc (.cells #[.int .i64 c.1, .string (str c.2)] t)) 2 encC (.slice (some ⟨w.heap.size, 0, none⟩) 1 1) [c] :=
  ⟨rfl, .inr ⟨w.heap.size, 0, 1, rfl, by simp, by simp, by unfold maxLen; omega, fun j u hu => by
    match j, hu with
    | 0, hu | 1, hu => simp [flat, encC] at hu; subst hu; simp [go_sem]
    | j + 2, hu => simp [flat, encC] at hu, fun j hj => by simp at hj, fun j hj => by simp [go_sem]⟩⟩
set_option maxRecDepth 100000 in
set_option maxHeartbeats 4000000 in
theorem xRecord_no (size seq : Int) (A : Option Addr) (n c : Nat) (l : List Ch) (w : World) (h : IsG w 2 encC A n l) (he : recE size seq l ≠ 0) :
    Calls Tryd.prog 13 #[.int .i64 size, .int .i64 seq, .slice A n c] w fun e w' => e = .returned (.tuple #[.slice none 0 0, chV (0, []), .int .i64 (recE size seq l)]) ∧ Below w.heap.size w w' := by
  obtain ⟨w0, HW0⟩ : ∃ x, Hid (w.alloc (.cells #[.int .i64 0, .string (str [])] 32) = x) := ⟨_, Lib.hid rfl⟩
  have hlen := h.length
  have hsm := h.small
  have B0 : Hid (Below w.heap.size w w0) := Lib.hid (by rw [← HW0.out]; exact balloc (Below.refl _ _) _)
  have K0 : Hid (ChAt w0 w.heap.size (0, [])) := Lib.hid (by rw [← HW0.out]; exact ChAt.new w (0, []) _)
  obtain ⟨p, Hp⟩ : ∃ x, Hid (w.heap.size = x) := ⟨_, Lib.hid rfl⟩
  rw [Hp.out] at K0
  have G0 := Lib.hid (h.below B0.out)
  obtain ⟨R, HR⟩ : ∃ x, Hid (rowB l = x) := ⟨_, Lib.hid rfl⟩
  clear h
  have hrow := (xRow_any A n c l w0 G0.out)
  rw [HR.out] at hrow
  have Hrow := Lib.hid hrow
  clear hrow
  by_cases h1 : seq < 1 ∨ 1099511627776 < seq ∨ l = [] ∨ rowB l = false
  · have hE : Hid (recE size seq l = 1) := Lib.hid (by rw [recE, if_pos h1])
    rw [hE.out]
    rw [HR.out] at h1
    go_enter Tryd.func13, Tryd.ntmps13
    go_wp2_with fail
    rw [HW0.out, Hp.out]
    refine Hrow.out.mono ?_
    rintro e w1 ⟨rfl, hb1⟩
    have K1 := K0.out.below hb1
    have Hb1 := Lib.hid (bnext B0.out hb1)
    have c0 := K1.c0
    have c1 := K1.c1
    have f0 := K1.f0
    have f1 := K1.f1
    have fin : ∀ {P : Ending → World → Prop}, P (.returned (.tuple #[.slice none 0 0, chV (0, []), .int .i64 1])) (setC w1 p (0, [])) → True := fun _ => trivial
    clear fin hb1 K1
    by_cases h2 : seq < 1
    · go_wp2
      refine bodyPost_ret (v := .tuple #[.slice none 0 0, chV (0, []), .int .i64 1]) ?_ rfl ⟨rfl, ?_⟩
      · rw [results_tct rfl]
        go_simp
      · exact setC_below Hb1.out (by have := Hp.out; omega) (0, [])
    · by_cases h3 : 1099511627776 < seq
      · go_wp2
        refine bodyPost_ret (v := .tuple #[.slice none 0 0, chV (0, []), .int .i64 1]) ?_ rfl ⟨rfl, ?_⟩
        · rw [results_tct rfl]
          go_simp
        · exact setC_below Hb1.out (by have := Hp.out; omega) (0, [])
      · by_cases h4 : n = 0
        · subst h4
          go_wp2
          refine bodyPost_ret (v := .tuple #[.slice none 0 0, chV (0, []), .int .i64 1]) ?_ rfl ⟨rfl, ?_⟩
          · rw [results_tct rfl]
            go_simp
          · exact setC_below Hb1.out (by have := Hp.out; omega) (0, [])
        · have h5 : R = false := by
            rcases h1 with h | h | h | h
            · omega
            · omega
            · subst h; simp at hlen; omega
            · exact h
          subst h5
          have hz : ((n : Int) == 0) = false := by simp; omega
          clear h1
          go_wp2
          refine bodyPost_ret (v := .tuple #[.slice none 0 0, chV (0, []), .int .i64 1]) ?_ rfl ⟨rfl, ?_⟩
          · rw [results_tct rfl]
            go_simp
          · exact setC_below Hb1.out (by have := Hp.out; omega) (0, [])
  · simp only [not_or, Bool.not_eq_false] at h1
    obtain ⟨h2, h3, h4, h5⟩ := h1
    have h6 : roomI size < l.length := by
      rcases Int.lt_or_le (roomI size) l.length with h | h
      · exact h
      · exact absurd (recE_of (by omega) (by omega) h4 h5 h) he
    have hE : Hid (recE size seq l = 15) := Lib.hid (by rw [recE, if_neg (by simp only [not_or, Bool.not_eq_false]; exact ⟨h2, h3, h4, h5⟩), if_pos h6])
    rw [hE.out]
    rw [hlen] at h6
    have h7 : n ≠ 0 := by rintro rfl; exact h4 (List.eq_nil_of_length_eq_zero hlen)
    have hz : ((n : Int) == 0) = false := by simp; omega
    obtain rfl : R = true := by rw [← HR.out]; exact h5
    clear h4 he h5 HR
    go_enter Tryd.func13, Tryd.ntmps13
    go_wp2_with fail
    rw [HW0.out, Hp.out]
    refine Hrow.out.mono ?_
    rintro e w1 ⟨rfl, hb1⟩
    have K1 := K0.out.below hb1
    have Hb1 := Lib.hid (bnext B0.out hb1)
    have c0 := K1.c0
    have c1 := K1.c1
    have f0 := K1.f0
    have f1 := K1.f1
    clear hb1 K1
    go_wp2_with fail
    refine (xRoom_any _ _).mono ?_
    rintro e w2 ⟨rfl, rfl⟩
    go_wp2
    refine bodyPost_ret (v := .tuple #[.slice none 0 0, chV (0, []), .int .i64 15]) ?_ rfl ⟨rfl, ?_⟩
    · rw [results_tct rfl]
      go_simp
    · exact setC_below Hb1.out (by have := Hp.out; omega) (0, [])
set_option maxRecDepth 100000 in
set_option maxHeartbeats 4000000 in
theorem xRecord_yes (size seq : Int) (A : Option Addr) (n c : Nat) (l : List Ch) (w : World) (h : IsG w 2 encC A n l) (he : recE size seq l = 0) (hsz : size ≤ 9223372036854775807) :
    Calls Tryd.prog 13 #[.int .i64 size, .int .i64 seq, .slice A n c] w fun e w' => ∃ v, e = .returned (.tuple #[v, chV (size - 1, markS seq.toNat l), .int .i64 0]) ∧ RG w' 2 encC v (numbered 1 (textsS seq.toNat l)) ∧ (∀ g, blk v = some g → w.heap.size ≤ g) ∧ Below w.heap.size w w' := by
  obtain ⟨w0, HW0⟩ : ∃ x, Hid (w.alloc (.cells #[.int .i64 0, .string (str [])] 32) = x) := ⟨_, Lib.hid rfl⟩
  have hlen := h.length
  have B0 : Hid (Below w.heap.size w w0) := Lib.hid (by rw [← HW0.out]; exact balloc (Below.refl _ _) _)
  obtain ⟨p, Hp⟩ : ∃ x, Hid (w.heap.size = x) := ⟨_, Lib.hid rfl⟩
  have K0 : Hid (ChAt w0 p (0, [])) := Lib.hid (by rw [← HW0.out, ← Hp.out]; exact ChAt.new w (0, []) _)
  have G0 := Lib.hid (h.below B0.out)
  have GW := Lib.hid h
  obtain ⟨h2, h3, h4, h5, h6⟩ := recE_ok he
  have h60 := roomI_le size
  have h63 : 4 ≤ size := by
    have : 1 ≤ l.length := List.length_pos_iff.2 h4
    unfold roomI at h6
    omega
  rw [hlen] at h6
  have h7 : n ≠ 0 := by rintro rfl; exact h4 (List.eq_nil_of_length_eq_zero hlen)
  have hz : ((n : Int) == 0) = false := by simp; omega
  have hn60 : n ≤ 60 := by omega
  have h61 : ¬ roomI size < (n : Int) := by omega
  obtain ⟨q, rfl⟩ := Int.eq_ofNat_of_zero_le (show 0 ≤ seq by omega)
  rw [Int.toNat_natCast]
  have h21 : ¬ (q : Int) < 1 := by omega
  have h31 : ¬ (1099511627776 : Int) < (q : Int) := by omega
  have hwr := Lib.hid (show IntKind.i64.wrap (size - 1) = size - 1 from IntWalk.i64_in _ (by omega))
  have hrow := (xRow_any A n c l w0 G0.out)
  rw [h5] at hrow
  have Hrow := Lib.hid hrow
  have hSh : Hid (Sh l) := Lib.hid ⟨by omega, fun c hc => by have := rowB_of h5 c hc; omega⟩
  have HLn := Lib.hid hlen
  clear h h4 he h6 h60 hrow h5 hlen
  go_enter Tryd.func13, Tryd.ntmps13
  go_wp2_with fail
  rw [HW0.out, Hp.out]
  refine Hrow.out.mono ?_
  rintro e w1 ⟨rfl, hb1⟩
  have K1 := Lib.hid (K0.out.below hb1)
  have B1 := Lib.hid (bnext B0.out hb1)
  clear hb1
  go_wp2_with fail
  refine (xRoom_any _ _).mono ?_
  rintro e w2 ⟨rfl, rfl⟩
  go_wp2_with fail
  refine (xlines_any q (by omega) A n c l w1 (GW.out.below B1.out) hSh.out).mono ?_
  obtain ⟨F, HF⟩ : ∃ x, Hid (firstS q l = x) := ⟨_, Lib.hid rfl⟩
  obtain ⟨M, HM⟩ : ∃ x, Hid (markS q l = x) := ⟨_, Lib.hid rfl⟩
  rw [HF.out, HM.out]
  rintro e w3 ⟨rfl, hb3⟩
  have K3 := Lib.hid (K1.out.below hb3)
  have B3 := Lib.hid (bnext B1.out hb3)
  clear hb3
  obtain ⟨w4, HW4⟩ : ∃ x, Hid (w3.alloc (.cells #[.int .i64 1, .string (str F)] 32) = x) := ⟨_, Lib.hid rfl⟩
  have B34 : Hid (Below w3.heap.size w3 w4) := Lib.hid (by rw [← HW4.out]; exact balloc (Below.refl _ _) _)
  have B4 := Lib.hid (bnext B3.out B34.out)
  have K4 := Lib.hid (K3.out.below B34.out)
  have R4 : Hid (RG w4 2 encC (.slice (some ⟨w3.heap.size, 0, none⟩) 1 1) (numbered 1 [F])) := Lib.hid (by rw [← HW4.out]; exact RG.oneC w3 (1, F) _)
  have N4 : Hid (∀ g, blk (.slice (some ⟨w3.heap.size, 0, none⟩) 1 1) = some g → p < g) := Lib.hid (fun g hg => by
    simp only [blk, Option.some.injEq] at hg
    have := K3.out.lt
    omega)
  obtain ⟨T4, HT4⟩ : ∃ x, Hid (Value.slice (some ⟨w3.heap.size, 0, none⟩) 1 1 = x) := ⟨_, Lib.hid rfl⟩
  rw [HT4.out] at R4 N4
  go_wp2_with fail
  rw [HW4.out, HT4.out]
  clear HT4 HW4 B34 B3 K3 B1 K1
  go_loopw [12, 13] (fun v i wr => ∃ (j : Nat) (T : Value), j ≤ n ∧ i = .int .i64 j ∧ v = T ∧ Hid (RG wr 2 encC T (numbered 1 (F :: (l.take j).map Prod.snd))) ∧ Hid (∀ g, blk T = some g → p < g) ∧ Hid (ChAt wr p (0, [])) ∧ Hid (Below w.heap.size w wr)) (fun _ i _ => n - (intOf i).toNat)
  case atStart => exact ⟨0, T4, Nat.zero_le _, rfl, rfl, R4, N4, K4, B4⟩
  case round =>
    obtain ⟨j, T, hj, rfl, rfl, HRj, HNj, HKj, HBj⟩ := hrel
    by_cases hltj : j < n
    · obtain ⟨g, off, rfl, hg, hc⟩ := (GW.out.below HBj.out).cells (by omega)
      obtain ⟨x, hx⟩ : ∃ x, l[j]? = some x := ⟨_, List.getElem?_eq_getElem (by have := HLn.out; omega)⟩
      have c1 := hc j x 1 (.string (str x.2)) hx rfl
      have hst : Hid (numbered 1 (F :: (l.take (j + 1)).map Prod.snd) = numbered 1 (F :: (l.take j).map Prod.snd) ++ [((2 : Int) + (j : Int), x.2)]) := Lib.hid (by
        obtain ⟨hk', he⟩ := List.getElem?_eq_some_iff.1 hx
        rw [List.take_succ_eq_append_getElem hk', he, List.map_append, List.map_cons, List.map_nil, ← List.cons_append, numbered_snoc, List.length_cons, List.length_map, List.length_take, Nat.min_eq_left (by omega)]
        congr 2
        simp
        omega)
      have hjI : (j : Int) < (n : Int) := by omega
      have hjw : IntKind.i64.wrap ((2 : Int) + (j : Int)) = (2 : Int) + (j : Int) := IntWalk.i64_in _ (by omega)
      clear hc hx hg
      obtain ⟨w5, HW5⟩ : ∃ y, Hid (wr.alloc (.cells #[.int .i64 ((2 : Int) + (j : Int)), .string (str x.2)] 32) = y) := ⟨_, Lib.hid rfl⟩
      obtain ⟨p5, Hp5⟩ : ∃ y, Hid (wr.heap.size = y) := ⟨_, Lib.hid rfl⟩
      have B5 : Hid (Below wr.heap.size wr w5) := Lib.hid (by rw [← HW5.out]; exact balloc (Below.refl _ _) _)
      have G5 : Hid (IsG w5 2 encC (some ⟨p5, 0, none⟩) 1 [((2 : Int) + (j : Int), x.2)]) := Lib.hid (by rw [← HW5.out, ← Hp5.out]; exact ch_one wr ((2 : Int) + (j : Int), x.2) _)
      obtain ⟨T6, w6, hr6, r6, a6⟩ := appG chInf encC_ok (HRj.out.below B5.out) (c := 1) G5.out (by rw [numbered_length]; simp; omega) (by decide) 30
      have Hr6 := Lib.hid hr6
      have HB6 : Hid (Below w.heap.size w w6) := Lib.hid (Mod.below (bnext HBj.out B5.out) a6.mod (bnext HBj.out B5.out).size (fun g hg => by have := HNj.out g hg; have := Hp.out; omega))
      have HK6 : Hid (ChAt w6 p (0, [])) := Lib.hid ((HKj.out.below B5.out).later a6.mod (fun hg => by have := HNj.out p hg; omega))
      have HR6 : Hid (RG w6 2 encC T6 (numbered 1 (F :: (l.take (j + 1)).map Prod.snd))) := Lib.hid (by rw [hst.out]; exact r6)
      have HN6 : Hid (∀ g, blk T6 = some g → p < g) := Lib.hid (fun g hg => by
        rcases a6.blk with e | ⟨g', e, h'⟩
        · exact HNj.out g (e ▸ hg)
        · rw [e] at hg; injection hg with hg; have := HKj.out.lt; have := B5.out.size; omega)
      clear hr6 r6 a6 hst
      go_wp2_with (at_builtin; rw [HW5.out, Hp5.out]; refine wpList_append_run rfl (.tmp 53) (.tmp 62) 30 rfl (by exact Hr6.out) ?_)
      go_roundw
      case rel => exact ⟨j + 1, T6, by omega, by go_num, rfl, HR6, HN6, HK6, HB6⟩
      case measure => simp [intOf]; omega
    · obtain rfl : j = n := by omega
      have htk : Hid (l.take j = l) := Lib.hid (List.take_of_length_le (by have := HLn.out; omega))
      rw [htk.out] at HRj
      have R7 : Hid (RG wr 2 encC u12 (numbered 1 (textsS q l))) := Lib.hid (by rw [textsS, HF.out]; exact HRj.out)
      have hjI : ¬ (j : Int) < (j : Int) := by omega
      have c0 := HKj.out.c0
      have c1 := HKj.out.c1
      have f0 := HKj.out.f0
      have f1 := HKj.out.f1
      have hwr' : IntKind.i64.wrap (size - 1) = size - 1 := hwr.out
      clear HRj htk
      go_wp2_with fail
      obtain ⟨wb, HWb⟩ : ∃ x, Hid (setC wr p (size - 1, M) = x) := ⟨_, Lib.hid rfl⟩
      have hwb := HWb.out
      unfold setC at hwb
      rw [hwb]
      have Kb : Hid (ChAt wb p (size - 1, M)) := Lib.hid (by rw [← HWb.out]; exact HKj.out.set _)
      have Bb : Hid (Below w.heap.size w wb) := Lib.hid (by rw [← HWb.out]; exact setC_below HBj.out (by have := Hp.out; omega) _)
      have Rb : Hid (RG wb 2 encC u12 (numbered 1 (textsS q l))) := Lib.hid (by
        rw [← HWb.out]
        exact R7.out.later (setC_mod wr p _) (fun g' hg' e => by have := HNj.out g' hg'; omega))
      have e0 := Kb.out.c0
      have e1 := Kb.out.c1
      refine bodyPost_ret (v := .tuple #[u12, chV (size - 1, M), .int .i64 0]) ?_ rfl ⟨u12, by rw [HM.out]; rfl, Rb.out, fun g' hg' => by have := HNj.out g' hg'; have := Hp.out; omega, Bb.out⟩
      rw [results_tct rfl]
      go_simp
theorem xRecord_any (size seq : Int) (A : Option Addr) (n c : Nat) (l : List Ch) (w : World) (h : IsG w 2 encC A n l) (hsz : size ≤ 9223372036854775807) :
    Calls Tryd.prog 13 #[.int .i64 size, .int .i64 seq, .slice A n c] w fun e w' => ∃ v, e = .returned (.tuple #[v, chV (recM size seq l), .int .i64 (recE size seq l)]) ∧ RG w' 2 encC v (recL size seq l) ∧ (∀ g, blk v = some g → w.heap.size ≤ g) ∧ Below w.heap.size w w' := by
  by_cases he : recE size seq l = 0
  · refine (xRecord_yes size seq A n c l w h he hsz).mono ?_
    rintro e w' ⟨v, rfl, hr, hg, hb⟩
    exact ⟨v, by rw [recM, if_pos he, he], by rw [recL, if_pos he]; exact hr, hg, hb⟩
  · refine (xRecord_no size seq A n c l w h he).mono ?_
    rintro e w' ⟨rfl, hb⟩
    exact ⟨.slice none 0 0, by rw [recM, if_neg he], by rw [recL, if_neg he]; exact RG.nil _ _ _, (fun g hg => by cases hg), hb⟩
end Go.Proofs.YtgncmgchoogmpaaDoor
