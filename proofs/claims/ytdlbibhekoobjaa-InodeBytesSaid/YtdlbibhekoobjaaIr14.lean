/- What the document gives of pieces, at this translation. -/
import Derived.Test.YtdlbibhekoobjaaIq14
namespace Go.Proofs.Ytdlbibhekoobjaa
open Go.RowKit

theorem flatP_snoc (A : List Pc) (p : Pc) : flat encP (A ++ [p]) = flat encP A ++ [.int .i64 (p.1 : Int), .int .i64 (p.2.1 : Int), .int .i64 (p.2.2 : Int)] := by rw [flat_append, flat_one]; rfl
/-- The last piece's end turned. -/
theorem RG.setTo {w : World} {g off n c : Nat} {A : List Pc} {i x y : Nat} (h : RG w 3 encP (.slice (some ⟨g, off, none⟩) n c) (A ++ [(i, x, y)])) (z : Nat) :
    RG (w.setCell ⟨g, off + (A.length * 3 + 2), none⟩ (.int .i64 (z : Int))) 3 encP (.slice (some ⟨g, off, none⟩) n c) (A ++ [(i, x, z)]) := by
  obtain ⟨A', c', e⟩ := h.shape
  injection e with e1 e2 e3
  have hl : n = A.length + 1 := by rw [e2]; simp
  have h1 : Row w 3 (.slice (some ⟨g, off, none⟩) n c) n (flat encP (A ++ [(i, x, y)])) := by rw [e2]; rw [e2] at h; exact h.row
  have h2 := rowSet h1 (j := A.length * 3 + 2) (by omega) (.int .i64 (z : Int))
  have hfl : (flat encP A).length = A.length * 3 := flat_length encP_ok A
  have e4 : (flat encP (A ++ [(i, x, y)])).set (A.length * 3 + 2) (.int .i64 (z : Int)) = flat encP (A ++ [(i, x, z)]) := by
    rw [flatP_snoc, flatP_snoc, ← hfl, List.set_append_right _ _ (by omega), show (flat encP A).length + 2 - (flat encP A).length = 2 by omega]
    rfl
  rw [e4] at h2
  refine ⟨?_⟩
  rw [show (A ++ [(i, x, z)]).length = n by simp [hl]]
  exact h2
set_option maxRecDepth 100000 in
set_option maxHeartbeats 4000000 in
theorem XPieces_any (f t : Int) (hf : (Lit.int .i64 f).wf = true) (htw : (Lit.int .i64 t).wf = true) (w : World) :
    Calls Try.prog 21 #[.int .i64 f, .int .i64 t] w fun e w' => ∃ v, e = .returned v ∧ RG w' 3 encP v (pieces f t) ∧ (∀ g, blk v = some g → w.heap.size ≤ g) ∧ Below w.heap.size w w' := by
  obtain ⟨F, HF⟩ : ∃ x, Hid (clampF f = x) := ⟨_, Lib.hid rfl⟩
  obtain ⟨T, HT⟩ : ∃ x, Hid (clampT f t = x) := ⟨_, Lib.hid rfl⟩
  have hle := clamp_le f t
  have Hr : Hid (pieces f t = pcs F T) := Lib.hid (by rw [pieces, HF.out, HT.out])
  rw [HF.out, HT.out] at hle
  obtain ⟨hle, ht⟩ := hle
  rw [Hr.out]
  obtain ⟨f0, f1⟩ := wf64 hf
  obtain ⟨t0, t1⟩ := wf64 htw
  clear hf htw
  go_enter Try.func21, Try.ntmps21
  go_upto_if 9 with fail
  go_cut [0] (fun s wx => s = .int .i64 (max f 0) ∧ wx = w)
  case first =>
    by_cases h : f < 0
    · go_wp2_with fail
      go_meet
      case rel => exact ⟨by rw [show max f 0 = 0 by omega], rfl⟩
    · go_wp2_with fail
      go_meet
      case rel => exact ⟨by rw [show max f 0 = f by omega], rfl⟩
  case rest =>
  obtain ⟨rfl, hwc⟩ := hcut
  have hws := hwc.symm; clear hwc; subst hws
  obtain ⟨m0, Hm0⟩ : ∃ x, Hid (max f 0 = x) := ⟨_, Lib.hid rfl⟩
  have hm0 : 0 ≤ m0 ∧ m0 ≤ 9223372036854775807 := by have := Hm0.out; omega
  obtain ⟨hm00, hm01⟩ := hm0
  rw [Hm0.out]
  go_upto_if 11 with fail
  go_cut [0] (fun s wx => s = .int .i64 (F : Int) ∧ wx = w)
  case first =>
    by_cases h : 6144 < m0
    · go_wp2_with fail
      go_meet
      case rel => exact ⟨by have := Hm0.out; have h2 := HF.out; unfold clampF at h2; rw [show (F : Int) = 6144 by omega], rfl⟩
    · go_wp2_with fail
      go_meet
      case rel => exact ⟨by have := Hm0.out; have h2 := HF.out; unfold clampF at h2; rw [show (F : Int) = m0 by omega], rfl⟩
  case rest =>
  obtain ⟨rfl, hwc⟩ := hcut
  have hws := hwc.symm; clear hwc; subst hws
  obtain ⟨tt, Htt⟩ : ∃ x, Hid (min t 6144 = x) := ⟨_, Lib.hid rfl⟩
  have htt : tt ≤ 6144 ∧ ∀ i : Nat, F ≤ i → ((i : Int) < tt ↔ i < T) := by
    have := Htt.out; have h2 := HF.out; have h3 := HT.out
    unfold clampT at h3; rw [h2] at h3
    exact ⟨by omega, fun i hi => by omega⟩
  obtain ⟨htt0, htt1⟩ := htt
  have Htt1 := Lib.hid htt1
  clear htt1
  go_upto_if 13 with fail
  go_cut [1] (fun s wx => s = .int .i64 tt ∧ wx = w)
  case first =>
    by_cases h : 6144 < t
    · go_wp2_with fail
      go_meet
      case rel => exact ⟨by have := Htt.out; rw [show tt = 6144 by omega], rfl⟩
    · go_wp2_with fail
      go_meet
      case rel => exact ⟨by have := Htt.out; rw [show tt = t by omega], rfl⟩
  case rest =>
  obtain ⟨rfl, hwc⟩ := hcut
  have hws := hwc.symm; clear hwc; subst hws
  go_wp2_with fail
  go_loopw [5, 6] (fun o i wr => ∃ j : Nat, F ≤ j ∧ j ≤ T ∧ i = .int .i64 j ∧ Hid (RG wr 3 encP o (pcs F j)) ∧ Hid (∀ g, blk o = some g → w.heap.size ≤ g) ∧ Hid (Below w.heap.size w wr)) (fun _ i _ => T - (intOf i).toNat)
  case atStart => exact ⟨F, by omega, hle, rfl, Lib.hid (by rw [pcs_none (Nat.le_refl _)]; exact RG.nil _ _ _), Lib.hid (fun g hg => by cases hg), Lib.hid (Below.refl _ _)⟩
  case round =>
    obtain ⟨j, hj0, hj1, rfl, HR, HN, HB⟩ := hrel
    by_cases hlt : j < T
    · have hltI : (j : Int) < tt := (Htt1.out j hj0).2 hlt
      obtain ⟨A5, c5, he5⟩ := HR.out.shape
      subst he5
      have hln := pcs_length_le (f := F) (t := j) (by omega)
      obtain ⟨n, Hn⟩ : ∃ n, Hid ((pcs F j).length = n) := ⟨_, Lib.hid rfl⟩
      rw [Hn.out] at hln ⊢
      have HR' : Hid (RG wr 3 encP (.slice A5 n c5) (pcs F j)) := Lib.hid (by rw [← Hn.out]; exact HR.out)
      have HN' : Hid (∀ g, blk (.slice A5 n c5) = some g → w.heap.size ≤ g) := Lib.hid (by rw [← Hn.out]; exact HN.out)
      clear HR HN
      have HR := HR'
      have HN := HN'
      clear HR' HN'
      obtain ⟨z7, Hz7⟩ : ∃ z : Int, Hid ((n : Int) - 1 = z) := ⟨_, Lib.hid rfl⟩
      have hz7 := Hz7.out
      obtain ⟨jd, Hjd⟩ : ∃ z, Hid (j / 512 = z) := ⟨_, Lib.hid rfl⟩
      obtain ⟨jm, Hjm⟩ : ∃ z, Hid (j % 512 = z) := ⟨_, Lib.hid rfl⟩
      have hjd : (j : Int) / 512 = (jd : Int) := by have := Hjd.out; omega
      have hjm : (j : Int) % 512 = (jm : Int) := by have := Hjm.out; omega
      have hjm5 : jm < 512 := by have := Hjm.out; omega
      have hjd5 : jd ≤ 12 := by have := Hjd.out; omega
      obtain ⟨NW, HNW⟩ : ∃ b, Hid (decide (j = F ∨ j % 512 = 0) = b) := ⟨_, Lib.hid rfl⟩
      go_upto_region 12 with fail
      go_cut [34] (fun b wx => b = .bool NW ∧ wx = wr)
      case first =>
        by_cases hjF : j = F
        · have hn0 : n = 0 := by rw [← Hn.out, pcs_none (by omega)]; rfl
          have hz8 : z7 < 0 := by omega
          clear hn0
          have hN : NW = true := by rw [← HNW.out]; simp [hjF]
          subst hN
          go_wp2_with fail
          go_meet
          case rel => exact ⟨by first | rfl | trivial | (congr 1; rw [decide_eq_false (by omega)]; rfl), rfl⟩
        · obtain ⟨A0, x0, y0, he0⟩ := pcs_lastIndex (f := F) (i := j) (by omega)
          have hA0 : A0.length = n - 1 ∧ 0 < n := by have := congrArg List.length he0; rw [Hn.out] at this; simp at this; omega
          obtain ⟨hA0, hnp⟩ := hA0
          obtain ⟨g, off, rfl, hg, hc⟩ := (HR.out.is encP_ok).1.cells hnp
          have c0 := hc (n - 1) ((j - 1) / 512, x0, y0) 0 (.int .i64 (((j - 1) / 512 : Nat) : Int)) (by rw [he0, ← hA0, List.getElem?_append_right (Nat.le_refl _)]; simp) rfl
          rw [Nat.add_zero] at c0
          obtain ⟨jq, Hjq⟩ : ∃ z, Hid ((j - 1) / 512 = z) := ⟨_, Lib.hid rfl⟩
          rw [Hjq.out] at c0
          have hne : ((jq : Int) != (jd : Int)) = NW := by
            rw [← HNW.out]
            have h1 := Hjq.out; have h2 := Hjd.out
            by_cases h3 : j % 512 = 0
            · simp [h3]; omega
            · simp [h3, hjF]; omega
          obtain ⟨n1, Hn1⟩ : ∃ z, Hid (n - 1 = z) := ⟨_, Lib.hid rfl⟩
          rw [Hn1.out] at c0
          have hn2 : z7 < (n : Int) := by omega
          have hn5 : 0 ≤ z7 := by omega
          have hn6 : z7.toNat = n1 := by have := Hn1.out; omega
          clear hc he0
          go_wp2_with fail
          go_meet
          case rel => exact ⟨by first | rfl | trivial | (congr 1; rw [decide_eq_false (by omega)]; rfl), rfl⟩
      case rest =>
      obtain ⟨rfl, hwc⟩ := hcut
      have hws := hwc.symm; clear hwc; subst hws
      go_upto_if 34 with fail
      go_cut [5, 7] (fun o k wx => ∃ (A : List Pc) (x y m : Nat), k = .int .i64 (m : Int) ∧ A.length = m ∧ m ≤ 20 ∧ Hid (pcs F (j + 1) = A ++ [(jd, x, jm + 1)]) ∧ Hid (RG wx 3 encP o (A ++ [(jd, x, y)])) ∧ Hid (∀ g, blk o = some g → w.heap.size ≤ g) ∧ Hid (Below w.heap.size w wx))
      case first =>
        by_cases hnew : j = F ∨ j % 512 = 0
        · have Hnw : Hid (pcs F (j + 1) = pcs F j ++ [(jd, jm, jm + 1)]) := Lib.hid (by rw [pcs_new hj0 hnew, Hjd.out, Hjm.out])
          have hN : NW = true := by rw [← HNW.out]; simp [hnew]
          subst hN
          have hn4 : z7 + 1 = (n : Int) := by omega
          obtain ⟨W2, HW2⟩ : ∃ z, Hid (wr.alloc (.cells #[.int .i64 (jd : Int), .int .i64 (jm : Int), .int .i64 0] 41) = z) := ⟨_, Lib.hid rfl⟩
          have B2 : Hid (Below wr.heap.size wr W2) := Lib.hid (by rw [← HW2.out]; exact balloc (Below.refl _ wr) _)
          obtain ⟨q, Hq⟩ : ∃ z, Hid (wr.heap.size = z) := ⟨_, Lib.hid rfl⟩
          have G2 : Hid (IsG W2 3 encP (some ⟨q, 0, none⟩) 1 [(jd, jm, 0)]) := Lib.hid (by rw [← HW2.out, ← Hq.out]; exact pc_one wr (jd, jm, 0) _)
          obtain ⟨T6, w6, hr6, r6, a6⟩ := appG pcInf encP_ok (HR.out.below B2.out) (c := 1) G2.out (by rw [Hn.out]; omega) (by decide) 37
          obtain ⟨A6, c6, he6⟩ := r6.shape
          rw [List.length_append, List.length_singleton, Hn.out] at he6
          subst he6
          have Hr6 := Lib.hid hr6
          have HR6 := Lib.hid r6
          have HN6 : Hid (∀ g, blk (.slice A6 (n + 1) c6) = some g → w.heap.size ≤ g) := Lib.hid (fun g hg => by
            rcases a6.blk with e | ⟨g', e, h'⟩
            · exact HN.out g (e ▸ hg)
            · rw [e] at hg; injection hg with hg; have := B2.out.size; have := HB.out.size; omega)
          have HB6 : Hid (Below w.heap.size w w6) := Lib.hid (Mod.below (bnext HB.out B2.out) a6.mod (bnext HB.out B2.out).size (fun g hg => HN.out g hg))
          clear hr6 r6 a6
          go_wp2_with (at_builtin; rw [HW2.out, Hq.out]; refine wpList_append_run rfl (.tmp 35) (.tmp 41) 37 rfl (by exact Hr6.out) ?_)
          go_meet
          case rel => exact ⟨pcs F j, jm, 0, n, by go_num, by rw [Hn.out], by omega, Hnw, HR6, HN6, HB6⟩
        · obtain ⟨A0, x0, he0, he1⟩ := pcs_more (f := F) (i := j) (by omega) (by omega)
          rw [Hjd.out, Hjm.out] at he0 he1
          have He1 := Lib.hid he1
          have hA0 : A0.length = n - 1 ∧ 0 < n := by have := congrArg List.length he0; rw [Hn.out] at this; simp at this; omega
          obtain ⟨hA0, hnp⟩ := hA0
          obtain ⟨g, off, rfl, hg, hc⟩ := (HR.out.is encP_ok).1.cells hnp
          have hN : NW = false := by rw [← HNW.out]; simp [hnew]
          subst hN
          have hn1 : z7 = ((n - 1 : Nat) : Int) := by omega
          have hR7 : RG wr 3 encP (.slice (some ⟨g, off, none⟩) n c5) (A0 ++ [(jd, x0, jm)]) := by have h := HR.out; rw [he0] at h; exact h
          have HR7 := Lib.hid hR7
          have HN7 : Hid (∀ g', blk (.slice (some ⟨g, off, none⟩) n c5) = some g' → w.heap.size ≤ g') := Lib.hid (fun g' hg' => HN.out g' hg')
          clear hc hnew he0 he1 hR7 hn1
          go_wp2_with fail
          go_meet
          case rel => exact ⟨A0, x0, jm, n - 1, by rw [show z7 = ((n - 1 : Nat) : Int) by omega], hA0, by omega, He1, HR7, HN7, HB⟩
      case rest =>
      obtain ⟨A, x, y, m, rfl, hA, hm, Hnx, HR8, HN8, HB8⟩ := hcut
      obtain ⟨A8, c8, he8⟩ := HR8.out.shape
      have hnl : (A ++ [(jd, x, y)]).length = m + 1 := by simp [hA]
      rw [hnl] at he8
      subst he8
      obtain ⟨g, off, rfl, hg, hc⟩ := (HR8.out.is encP_ok).1.cells (by omega)
      have hR9 := RG.cell encP_ok HR8.out (i := m) (a := (jd, x, y)) (by rw [← hA, List.getElem?_append_right (Nat.le_refl _)]; simp) (j := 2) (u := .int .i64 (y : Int)) rfl
      obtain ⟨c0, f0⟩ := hR9
      have hm1 : (m : Int) < (m : Int) + 1 := by omega
      have H9 : Hid (RG (wc.setCell ⟨g, off + m * 3 + 2, none⟩ (.int .i64 ((jm + 1 : Nat) : Int))) 3 encP (.slice (some ⟨g, off, none⟩) (m + 1) c8) (pcs F (j + 1))) := Lib.hid (by
        have h := RG.setTo HR8.out (jm + 1)
        rw [hA] at h
        rw [Hnx.out, Nat.add_assoc]
        exact h)
      have B9 : Hid (Below w.heap.size w (wc.setCell ⟨g, off + m * 3 + 2, none⟩ (.int .i64 ((jm + 1 : Nat) : Int)))) := Lib.hid (HB8.out.setCell (HN8.out g rfl) _)
      obtain ⟨jp, Hjp⟩ : ∃ z, Hid (jm + 1 = z) := ⟨_, Lib.hid rfl⟩
      rw [Hjp.out] at H9 B9
      have hjp : (jm : Int) + 1 = (jp : Int) := by have := Hjp.out; omega
      clear hc hz7
      go_wp2
      go_roundw
      case rel => exact ⟨j + 1, by omega, by omega, by go_num, H9, HN8, B9⟩
      case measure => simp [intOf]; omega
    · obtain rfl : j = T := by omega
      have hltI : ¬ (j : Int) < tt := fun h => hlt ((Htt1.out j hj0).1 h)
      go_wp2
      go_ret
      exact ⟨_, rfl, HR.out, HN.out, HB.out⟩
end Go.Proofs.Ytdlbibhekoobjaa
