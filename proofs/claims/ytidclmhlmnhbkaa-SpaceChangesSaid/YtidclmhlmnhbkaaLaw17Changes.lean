/- Sectors are taken and given as the document says; what is handed in stays: SpaceChanges. -/
import Derived.Test.YtidclmhlmnhbkaaRows
import Derived.Test.YtidclmhlmnhbkaaOa17

namespace Go.Proofs.Ytidclmhlmnhbkaa.spaceChanges
open Go.RowKit Go.ChangeShapes Go.WideShapes Go.ChangeAt
open Go.ChangeMaps (open_string shut_string)

theorem rg_none {w : World} {A : Option Addr} {n c : Nat} {M : List (List UInt8)} (h : RG w 1 encT (.slice A n c) M) : A = none → n = 0 ∧ c = 0 := by
  intro e
  subst e
  rcases h.row.is with ⟨e, _⟩ | ⟨g, off, cap, e, _⟩
  · injection e with e1 e2 e3
    exact ⟨e2, e3⟩
  · cases e
theorem takeV_len (l : Lay) (M : List (List UInt8)) (z k : Int) : (takeV l M z k).1.length = M.length ∧ (takeV l M z k).2.1.length ≤ 16000 := by
  rw [takeV]
  split
  · rename_i h
    obtain ⟨hR, zn, m, rfl, rfl, _, hm, _⟩ := takeOk_parts h
    rw [Int.toNat_natCast, Int.toNat_natCast]
    exact ⟨by rw [(takeUp_right hR zn m 4).four, hR.four], Nat.le_trans (takeUp_len l M zn m 4) hm⟩
  · exact ⟨rfl, by simp⟩
theorem giveTo_len {l : Lay} : ∀ {xs : List Int} {M M' : List (List UInt8)}, giveTo l M xs = some M' → M'.length = M.length
  | [], M, M', h => by rw [Option.some.inj h]
  | x :: xs, M, M', h => by
    rw [giveTo] at h
    split at h
    · rw [giveTo_len h, List.length_set]
    · cases h
theorem giveV_len (l : Lay) (M : List (List UInt8)) (xs : List Int) : (giveV l M xs).1.length = M.length := by
  rw [giveV]
  split
  · split
    · rename_i h
      exact giveTo_len h
    · rfl
  · rfl
set_option maxRecDepth 100000 in
set_option maxHeartbeats 8000000 in
theorem walk (l : Lay) (A : Option Addr) (n c : Nat) (ss : List (List UInt8)) (z k : Int) (xs : List Int) (B : Option Addr) (m cb : Nat) (w : World) (_hl : (Lit.int .i64 l.s).wf = true ∧ (Lit.int .i64 l.n).wf = true ∧ (Lit.int .i64 l.f).wf = true ∧ (Lit.int .i64 l.z).wf = true) (h1 : IsStrs w A n ss)
    (h2 : IsG w 1 encI B m xs ∧ m ≤ cb ∧ cb ≤ maxLen ∧ (∀ x ∈ xs, (Lit.int .i64 x).wf = true) ∧ (Lit.int .i64 z).wf = true ∧ (Lit.int .i64 k).wf = true) :
    Calls Try.prog 4 #[l.v, .slice A n c, .agg #[.int .i64 z, .int .i64 k, .slice B m cb]] w fun e w' => e = .returned (.bool true) ∧ Below w.heap.size w w' := by
  obtain ⟨hB, hmc, hcm, hwf, _, _⟩ := h2
  obtain ⟨V, HV⟩ : ∃ W, Hid ((w.alloc (.cells #[.int .i64 l.s, .int .i64 l.n, .int .i64 l.f, .int .i64 l.z] 23)).alloc (.cells #[.int .i64 z, .int .i64 k, .slice B m cb] 32) = W) := ⟨_, Lib.hid rfl⟩
  obtain ⟨p, Hp⟩ : ∃ p, Hid (w.heap.size = p) := ⟨_, Lib.hid rfl⟩
  have hbV : Below w.heap.size w V := by rw [← HV.out]; exact balloc (balloc (Below.refl _ _) _) _
  obtain ⟨pa, Hpa⟩ : ∃ q, Hid (p + 1 = q) := ⟨_, Lib.hid rfl⟩
  have RV : Hid (V.cell? ⟨pa, 0, none⟩ = some (.int .i64 z) ∧ V.cell? ⟨pa, 1, none⟩ = some (.int .i64 k) ∧ V.cell? ⟨pa, 2, none⟩ = some (.slice B m cb) ∧ V.frozen? ⟨pa, 2, none⟩ = false ∧ LayAt V p l ∧ Below w.heap.size w V ∧ w.heap.size ≤ pa) := Lib.hid (by
    refine ⟨?_, ?_, ?_, ?_, ?_, hbV, by have := Hp.out; have := Hpa.out; omega⟩
    all_goals rw [← HV.out]
    all_goals try rw [← Hpa.out]
    all_goals rw [← Hp.out]
    · simp [go_sem]
    · simp [go_sem]
    · simp [go_sem]
    · simp [go_sem]
    · exact ⟨by go_simp, by go_simp, by go_simp, by go_simp⟩)
  have hG := Lib.hid ((isG_of h1).1.below hbV)
  have hX := Lib.hid (hB.below hbV)
  have Hsl := Lib.hid (isG_of h1).2
  have Hml := Lib.hid (cutM_len ss)
  have Hm6 := Lib.hid (cutM_length ss)
  obtain ⟨M, HM⟩ : ∃ m, Hid (cutM ss = m) := ⟨_, Lib.hid rfl⟩
  rw [HM.out] at Hml Hm6
  have Hwf : Hid (∀ x ∈ xs.take 12, (Lit.int .i64 x).wf = true) := Lib.hid (fun x hx => hwf x (List.mem_of_mem_take hx))
  have Hlx := Lib.hid hB.length
  have HXb : Hid (∀ g off, B = some ⟨g, off, none⟩ → 0 < m → g < w.heap.size) := Lib.hid (fun g off e h0 => by
    obtain ⟨g', off', e', hg, _⟩ := hB.cells h0
    rw [e] at e'; cases e'; exact hg)
  have HAb : Hid (∀ g off, A = some ⟨g, off, none⟩ → 0 < n → g < w.heap.size) := Lib.hid (fun g off e h0 => by
    obtain ⟨g', off', e', hg, _⟩ := (isG_of h1).1.cells h0
    rw [e] at e'; cases e'; exact hg)
  have hpn : pa ≠ p := by have := Hpa.out; omega
  clear h1 _hl hB hwf hbV
  go_enter Try.func4, Try.ntmps4
  go_wp2_with fail
  rw [HV.out, Hp.out, Hpa.out]
  refine (awk17_any V).mono ?_
  rintro e w1 ⟨rfl, b1⟩
  have B1 := Lib.hid b1
  clear b1
  go_wp2_with fail
  refine (small17_any A n c ss w1 (hG.out.below B1.out) Hsl.out).mono ?_
  rw [HM.out]
  rintro e w2 ⟨A2, n2, c2, rfl, gr, gn, gb⟩
  have HMb : Hid (∀ g off, A2 = some ⟨g, off, none⟩ → 0 < n2 → w1.heap.size ≤ g) := Lib.hid (fun g off e _ => gn g (by rw [e]; rfl))
  have D2 : Hid (Below V.heap.size V w2 ∧ IsG w2 1 encT A2 n2 M ∧ (A2 = none → n2 = 0 ∧ c2 = 0)) := Lib.hid ⟨bnext B1.out gb, (gr.is encT_ok).1, rg_none gr⟩
  clear gr gb gn
  have a2 := (D2.out.1.cell (p := ⟨pa, 2, none⟩) (lt_of_cell RV.out.2.2.1)).trans RV.out.2.2.1
  have f2 := (D2.out.1.frozen (p := ⟨pa, 2, none⟩) (lt_of_cell RV.out.2.2.1)).trans RV.out.2.2.2.1
  have m0 : (0 : Int) ≤ (m : Int) := by omega
  have hm9 : m ≤ 9223372036854775807 := hX.out.small
  go_upto_if 29 with fail
  go_cut [5] (fun s wx => s = .pointer (some ⟨pa, 0, none⟩) ∧ ∃ B' m' c', Hid (wx.cell? ⟨pa, 0, none⟩ = some (.int .i64 z) ∧ wx.cell? ⟨pa, 1, none⟩ = some (.int .i64 k) ∧ wx.cell? ⟨pa, 2, none⟩ = some (.slice B' m' c') ∧ IsG wx 1 encI B' m' (xs.take 12) ∧ LayAt wx p l ∧ IsG wx 1 encT A2 n2 M ∧ IsG wx 1 encT A n ss ∧ Below w.heap.size w wx))
  case first =>
    by_cases h12 : 12 < m
    · have h12' : (12 : Int) < (m : Int) := by omega
      have hc12 : (12 : Int) ≤ (cb : Int) := by omega
      have hc12n : 12 ≤ cb := by omega
      have hX2 := hX.out.below D2.out.1
      obtain ⟨gx, ox, rfl, _, _⟩ := hX2.cells (by omega)
      have m2 := (Mod.refl (· = pa) w2).set1 (o := 2) (.slice (some ⟨gx, ox, none⟩) 12 cb)
      have hpV : pa < V.heap.size := lt_of_cell RV.out.1
      have F : Hid ((w2.setCell ⟨pa, 2, none⟩ (.slice (some ⟨gx, ox, none⟩) 12 cb)).cell? ⟨pa, 0, none⟩ = some (.int .i64 z) ∧ (w2.setCell ⟨pa, 2, none⟩ (.slice (some ⟨gx, ox, none⟩) 12 cb)).cell? ⟨pa, 1, none⟩ = some (.int .i64 k) ∧ (w2.setCell ⟨pa, 2, none⟩ (.slice (some ⟨gx, ox, none⟩) 12 cb)).cell? ⟨pa, 2, none⟩ = some (.slice (some ⟨gx, ox, none⟩) 12 cb) ∧ IsG (w2.setCell ⟨pa, 2, none⟩ (.slice (some ⟨gx, ox, none⟩) 12 cb)) 1 encI (some ⟨gx, ox, none⟩) 12 (xs.take 12) ∧ LayAt (w2.setCell ⟨pa, 2, none⟩ (.slice (some ⟨gx, ox, none⟩) 12 cb)) p l ∧ IsG (w2.setCell ⟨pa, 2, none⟩ (.slice (some ⟨gx, ox, none⟩) 12 cb)) 1 encT A2 n2 M ∧ IsG (w2.setCell ⟨pa, 2, none⟩ (.slice (some ⟨gx, ox, none⟩) 12 cb)) 1 encT A n ss ∧ Below w.heap.size w (w2.setCell ⟨pa, 2, none⟩ (.slice (some ⟨gx, ox, none⟩) 12 cb))) := Lib.hid (by
        have bw := bnext RV.out.2.2.2.2.2.1 D2.out.1
        have hwp := RV.out.2.2.2.2.2.2
        refine ⟨set_other (by simp) ((D2.out.1.cell (p := ⟨pa, 0, none⟩) hpV).trans RV.out.1), set_other (by simp) ((D2.out.1.cell (p := ⟨pa, 1, none⟩) hpV).trans RV.out.2.1), set_same a2, (hX2.take (m := 12) (by omega)).later m2 (fun g off e _ => ?_), (RV.out.2.2.2.2.1.below D2.out.1).later m2 (fun e => hpn e.symm), D2.out.2.1.later m2 (fun g off e h0 => ?_), (hG.out.below D2.out.1).later m2 (fun g off e h0 => ?_), m2.below bw bw.size (fun i e => by rw [e]; exact hwp)⟩
        · have := HXb.out g off e (by omega); intro e2; omega
        · have := HMb.out g off e h0; have := B1.out.size; intro e2; omega
        · have := HAb.out g off e h0; intro e2; omega)
      clear m2 hpV
      go_wp2_with fail
      go_meet
      case rel => exact ⟨rfl, _, _, _, F⟩
    · have h12' : ¬ (12 : Int) < (m : Int) := by omega
      have F : Hid (w2.cell? ⟨pa, 0, none⟩ = some (.int .i64 z) ∧ w2.cell? ⟨pa, 1, none⟩ = some (.int .i64 k) ∧ w2.cell? ⟨pa, 2, none⟩ = some (.slice B m cb) ∧ IsG w2 1 encI B m (xs.take 12) ∧ LayAt w2 p l ∧ IsG w2 1 encT A2 n2 M ∧ IsG w2 1 encT A n ss ∧ Below w.heap.size w w2) := Lib.hid (by
        have hpV : pa < V.heap.size := lt_of_cell RV.out.1
        exact ⟨(D2.out.1.cell (p := ⟨pa, 0, none⟩) hpV).trans RV.out.1, (D2.out.1.cell (p := ⟨pa, 1, none⟩) hpV).trans RV.out.2.1, a2, by rw [List.take_of_length_le (by have := Hlx.out; omega)]; exact hX.out.below D2.out.1, RV.out.2.2.2.2.1.below D2.out.1, D2.out.2.1, hG.out.below D2.out.1, bnext RV.out.2.2.2.2.2.1 D2.out.1⟩)
      go_wp2_with fail
      go_meet
      case rel => exact ⟨rfl, _, _, _, F⟩
  case rest =>
  obtain ⟨rfl, B', m', c', R⟩ := hcut
  obtain ⟨ys, Hys⟩ : ∃ ys, Hid (xs.take 12 = ys) := ⟨_, Lib.hid rfl⟩
  rw [Hys.out] at R Hwf
  obtain ⟨TM, TS, tb, HT⟩ : ∃ a b c, Hid (takeV l M z k = (a, b, c)) := ⟨_, _, _, Lib.hid rfl⟩
  obtain ⟨GM, gt, HGV⟩ : ∃ a b, Hid (giveV l M ys = (a, b)) := ⟨_, _, Lib.hid rfl⟩
  have hM6 : Hid (M.length ≤ 6) := Hm6
  have hTM : Hid (TM.length ≤ 6 ∧ TS.length ≤ 16000) := Lib.hid (by have := takeV_len l M z k; rw [HT.out] at this; have h6 := hM6.out; exact ⟨by have := this.1; simp only at this; omega, this.2⟩)
  have hGM : Hid (GM.length ≤ 6) := Lib.hid (by have := giveV_len l M ys; rw [HGV.out] at this; have h6 := hM6.out; simp only at this; omega)
  obtain ⟨e0, e1, e2, e3⟩ := R.out.2.2.2.2.1
  have a0 := R.out.1
  have a1 := R.out.2.1
  have a2 := R.out.2.2.1
  go_wp2_with fail
  refine (Take_any l A2 n2 c2 M z k wc R.out.2.2.2.2.2.1 (by have := R.out.2.2.2.2.2.1.length; have := hM6.out; omega) D2.out.2.2 Hml.out).mono ?_
  rw [HT.out]
  rintro e w3 ⟨⟨Aa, na, ca, va, rfl, ra, sa, _, _, _, _⟩, b3⟩
  obtain ⟨As, cs, rfl⟩ := sa.shape
  have T3 : Hid (Below wc.heap.size wc w3 ∧ IsG w3 1 encT Aa na TM ∧ IsG w3 1 encI As TS.length TS) := Lib.hid ⟨b3, (ra.is encT_ok).1, (sa.is encI_ok).1⟩
  have B3 : Hid (Below wc.heap.size wc w3) := Lib.hid b3
  clear ra sa b3
  clear e0 e1 e2 e3 a0 a1 a2
  obtain ⟨e0, e1, e2, e3⟩ := R.out.2.2.2.2.1.below B3.out
  have a0 := (B3.out.cell (p := ⟨pa, 0, none⟩) (lt_of_cell R.out.1)).trans R.out.1
  have a1 := (B3.out.cell (p := ⟨pa, 1, none⟩) (lt_of_cell R.out.2.1)).trans R.out.2.1
  have a2 := (B3.out.cell (p := ⟨pa, 2, none⟩) (lt_of_cell R.out.2.2.1)).trans R.out.2.2.1
  go_wp2_with fail
  refine (YTake_any l A2 n2 c2 M z k w3 (R.out.2.2.2.2.2.1.below B3.out) Hml.out).mono ?_
  rw [HT.out]
  rintro e w4 ⟨⟨Ab, nb, cb2, vb, rfl, rb, sb⟩, b4⟩
  obtain ⟨At, ct, rfl⟩ := sb.shape
  have T4 : Hid (IsG w4 1 encT Ab nb TM ∧ IsG w4 1 encI At TS.length TS) := Lib.hid ⟨rb, (sb.is encI_ok).1⟩
  have B4 : Hid (Below wc.heap.size wc w4) := Lib.hid (bnext B3.out b4)
  have B34 : Hid (Below w3.heap.size w3 w4) := Lib.hid b4
  clear rb sb b4
  clear e0 e1 e2 e3 a0 a1 a2
  obtain ⟨e0, e1, e2, e3⟩ := R.out.2.2.2.2.1.below B4.out
  have a0 := (B4.out.cell (p := ⟨pa, 0, none⟩) (lt_of_cell R.out.1)).trans R.out.1
  have a1 := (B4.out.cell (p := ⟨pa, 1, none⟩) (lt_of_cell R.out.2.1)).trans R.out.2.1
  have a2 := (B4.out.cell (p := ⟨pa, 2, none⟩) (lt_of_cell R.out.2.2.1)).trans R.out.2.2.1
  go_wp2_with fail
  refine (Give_any l A2 n2 c2 M B' m' c' ys w4 (R.out.2.2.2.2.2.1.below B4.out) (by have := R.out.2.2.2.2.2.1.length; have := hM6.out; omega) D2.out.2.2 Hml.out (R.out.2.2.2.1.below B4.out) Hwf.out).mono ?_
  rw [HGV.out]
  rintro e w5 ⟨⟨Ac, nc, cc, rfl, rc, _⟩, b5⟩
  have T5 : Hid (IsG w5 1 encT Ac nc GM) := Lib.hid (rc.is encT_ok).1
  have B5 : Hid (Below wc.heap.size wc w5) := Lib.hid (bnext B4.out b5)
  have B45 : Hid (Below w4.heap.size w4 w5) := Lib.hid b5
  clear rc b5
  clear e0 e1 e2 e3 a0 a1 a2
  obtain ⟨e0, e1, e2, e3⟩ := R.out.2.2.2.2.1.below B5.out
  have a0 := (B5.out.cell (p := ⟨pa, 0, none⟩) (lt_of_cell R.out.1)).trans R.out.1
  have a1 := (B5.out.cell (p := ⟨pa, 1, none⟩) (lt_of_cell R.out.2.1)).trans R.out.2.1
  have a2 := (B5.out.cell (p := ⟨pa, 2, none⟩) (lt_of_cell R.out.2.2.1)).trans R.out.2.2.1
  go_wp2_with fail
  refine (YGive_any l A2 n2 c2 M B' m' c' ys w5 (R.out.2.2.2.2.2.1.below B5.out) Hml.out (R.out.2.2.2.1.below B5.out) Hwf.out).mono ?_
  rw [HGV.out]
  rintro e w6 ⟨⟨Ad, nd, cd, rfl, rd⟩, b6⟩
  have T6 : Hid (IsG w6 1 encT Ad nd GM) := Lib.hid rd
  have B6 : Hid (Below wc.heap.size wc w6) := Lib.hid (bnext B5.out b6)
  have B36 : Hid (Below w3.heap.size w3 w6) := Lib.hid (bnext (bnext B34.out B45.out) b6)
  have B46 : Hid (Below w4.heap.size w4 w6) := Lib.hid (bnext B45.out b6)
  have B56 : Hid (Below w5.heap.size w5 w6) := Lib.hid b6
  clear rd b6
  clear e0 e1 e2 e3 a0 a1 a2
  go_wp2_with fail
  refine (SameNames_any TM TM Aa Ab na ca nb cb2 w6 (T3.out.2.1.below B36.out) (T4.out.1.below B46.out) (by have := T3.out.2.1.length; have := hTM.out.1; omega) (by have := T4.out.1.length; have := hTM.out.1; omega)).mono ?_
  rw [decide_eq_true rfl]
  rintro e w7 ⟨rfl, b7⟩
  have B7 := Lib.hid b7
  clear b7
  go_wp2_with fail
  refine (Same03_any TS TS As At TS.length cs TS.length ct w7 ((T3.out.2.2.below B36.out).below B7.out) ((T4.out.2.below B46.out).below B7.out) (by have := hTM.out.2; omega) (by have := hTM.out.2; omega)).mono ?_
  rw [decide_eq_true rfl]
  rintro e w8 ⟨rfl, b8⟩
  have B8 : Hid (Below w6.heap.size w6 w8) := Lib.hid (bnext B7.out b8)
  clear b8
  go_wp2_with fail
  refine (SameNames_any GM GM Ac Ad nc cc nd cd w8 ((T5.out.below B56.out).below B8.out) (T6.out.below B8.out) (by have := T5.out.length; have := hGM.out; omega) (by have := T6.out.length; have := hGM.out; omega)).mono ?_
  rw [decide_eq_true rfl]
  rintro e w9 ⟨rfl, b9⟩
  have B9 : Hid (Below wc.heap.size wc w9) := Lib.hid (bnext (bnext B6.out B8.out) b9)
  clear b9
  go_wp2_with fail
  refine (small17_any A n c ss w9 (R.out.2.2.2.2.2.2.1.below B9.out) Hsl.out).mono ?_
  rw [HM.out]
  rintro e w10 ⟨Ae, ne, ce, rfl, ge, _, be⟩
  have T10 : Hid (Below wc.heap.size wc w10 ∧ IsG w10 1 encT Ae ne M) := Lib.hid ⟨bnext B9.out be, (ge.is encT_ok).1⟩
  clear ge be
  go_wp2_with fail
  refine (SameNames_any M M A2 Ae n2 c2 ne ce w10 (R.out.2.2.2.2.2.1.below T10.out.1) T10.out.2 (by have := R.out.2.2.2.2.2.1.length; have := hM6.out; omega) (by have := T10.out.2.length; have := hM6.out; omega)).mono ?_
  rw [decide_eq_true rfl]
  rintro e w11 ⟨rfl, b11⟩
  have B11 : Hid (Below w.heap.size w w11) := Lib.hid (bnext R.out.2.2.2.2.2.2.2 (bnext T10.out.1 b11))
  clear b11
  go_wp2
  go_ret
  exact ⟨ret_bool (by first | rfl | simp), B11.out⟩
theorem own : ownKnob Try.prog.godebug = none := by kernel_rfl
theorem laidOut : laidOutB Try.prog = true := by kernel_rfl
set_option maxRecDepth 100000 in
theorem lifted (os : Os) (started : os.Started) (H : Type) (enc : TypeId × Value → H) :
    ReturnsInHanded {} Try.checked os 4 .any (Rows.spaceChangesSpec.pre6 enc Try.prog Try.f4 Rows.spaceChangesRow.domain false) (Rows.spaceChangesSpec.post enc Try.prog Try.f4 false true false false) := by
  refine returnsInHanded_of_change (C := Try.checked) own started (by kernel_rfl) Try.func4
    (ChangeSpec.witness6 (enc := enc) (C := Try.checked) false ⟨#[], #[.agg #[.int .i64 0, .int .i64 0, .int .i64 0, .int .i64 0], .slice none 0 0, .agg #[.int .i64 0, .int .i64 0, .slice none 0 0]], []⟩ 8 (by kernel_rfl) (by kernel_rfl) (by kernel_rfl) (by kernel_rfl)) ?_
  intro W base args ds gs before hval0 hW hcnd _
  have hval : ∀ (j : Nat) t v, Try.f4.params[j]? = some t → args[j]? = some v → Value.okWide Try.prog W .any base t v := hval0
  have hW' := hW
  obtain ⟨p, q, hA0, hV, rfl, hfz, hnd⟩ := hW
  have hA : DataW.TrodAll enc Try.prog W 0 (fun _ => true) true Try.f4.params.toList args.toList ds p := hA0
  rw [Try.params4] at hA hval
  obtain ⟨v0, vs0, d0, ds0, p0, q0, hargs, rfl, rfl, h0, r0⟩ := trodAll_cons hA
  obtain ⟨v1, vs1, d1, ds1, p1, q1, rfl, rfl, rfl, h1, r1⟩ := trodAll_cons r0
  obtain ⟨v2, vs2, d2, ds2, p2, q2, rfl, rfl, rfl, h2, r2⟩ := trodAll_cons r1
  obtain ⟨rfl, rfl, rfl⟩ := trodAll_nil r2
  obtain rfl : args = #[v0, v1, v2] := by cases args; simp_all
  obtain ⟨a0, rfl, w0⟩ := open_layout (hval 0 23 v0 rfl rfl) h0
  obtain ⟨x1, len1, cap1, a1, rfl, w1⟩ := opens_strs Try.underlying24 Try.underlying9 (by kernel_rfl) (hval 1 24 v1 rfl rfl) h1
  obtain ⟨z2, k2, x2, a2, n2, c2, rfl, w2⟩ := open_ask (hval 2 32 v2 rfl rfl) h2
  clear hA0 hval0
  refine (walk a0 x1 len1 cap1 a1 z2 k2 x2 a2 n2 c2 W w0 w1 w2).mono fun e W' ⟨he, bel⟩ => ?_
  subst he
  exact ⟨_, rfl, law_post laidOut (by rw [Try.params4]; decide +kernel) rfl Try.underlying4 rfl hW' (fun _ => rfl) bel⟩
theorem over : Rows.spaceChangesRow.holds Try.pinned (OpenSpec.ofChange Rows.spaceChangesSpec) :=
  OpenClaim.holds_of_wide 4 Try.f4 rfl rfl rfl rfl rfl rfl rfl ⟨rfl, rfl, rfl, rfl, rfl⟩ rfl rfl rfl rfl rfl (by kernel_rfl) Try.func4 (by kernel_rfl)
    (of_decide_eq_true (by kernel_rfl)) (by unfold Func.isWrapper; first | (rw [if_pos (by decide +kernel)]; kernel_rfl) | (rw [if_neg (by decide +kernel)]; exact ⟨rfl, rfl⟩))
    (fun os started H enc _ => lifted os started H enc)
theorem proved : Rows.SpaceChangesSaid := over
end Go.Proofs.Ytidclmhlmnhbkaa.spaceChanges
