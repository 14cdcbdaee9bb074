/- In whatever order sectors are given back, the maps are the same: SpaceOrder. -/
import Derived.Test.YtidclmhlmnhbkaaRows
import Derived.Test.YtidclmhlmnhbkaaOa17
import Derived.Test.YtidclmhlmnhbkaaPo17
namespace Go.Proofs.Ytidclmhlmnhbkaa.spaceOrder
open Go.RowKit Go.ChangeShapes Go.WideShapes Go.ChangeAt
open Go.ChangeMaps (open_string shut_string)

theorem tmod_bd (a : Int) (m : Nat) (hm : 0 < m) : -(m : Int) < a.tmod m ∧ a.tmod m < m := by
  have h := Int.natAbs_tmod a m
  have h2 : (a.tmod m).natAbs < m := by rw [h]; exact Nat.mod_lt _ (by simpa using hm)
  omega
theorem and_mask17 (x : Int) (m : Nat) (hm : m ≤ 9223372036854775807) : ∃ k : Nat, Hid (bits .and .i64 x (m : Int) = (k : Int)) ∧ k ≤ m := by
  have h2 : (BitVec.ofInt 64 x &&& BitVec.ofInt 64 (m : Int)).toNat ≤ m := by
    rw [BitVec.toNat_and]
    have e : (BitVec.ofInt 64 (m : Int)).toNat = m := by simp; omega
    rw [e]
    exact Nat.and_le_right
  refine ⟨(BitVec.ofInt 64 x &&& BitVec.ofInt 64 (m : Int)).toNat, Lib.hid ?_, h2⟩
  show IntKind.i64.wrap ((BitVec.ofInt 64 x &&& BitVec.ofInt 64 (m : Int)).toNat : Int) = _
  rw [IntWalk.i64_in _ (by omega)]
theorem fresh_right : ∀ n : Nat, n < 101 → rightM (freshL (140 + (n : Int))) (freshM (140 + (n : Int))) = true := by decide +kernel
theorem turn_step {S : List Int} {j : Nat} {x : Int} (h : S[j]? = some x) : (S.drop j).reverse = (S.drop (j + 1)).reverse ++ [x] := by
  obtain ⟨h1, e⟩ := List.getElem?_eq_some_iff.1 h
  rw [List.drop_eq_getElem_cons h1, e, List.reverse_cons]
theorem wf_small (k : Nat) (h : k ≤ 100000) : (Lit.int .i64 (k : Int)).wf = true := by
  simp [Lit.wf, show IntKind.i64.min = -9223372036854775808 from rfl, show IntKind.i64.max = 9223372036854775807 from rfl]
  omega
theorem owe_wf {l : Lay} {M N : List (List UInt8)} {R : List Int} (hM : RightM l M) (h : Owe l M N R) : ∀ x ∈ R, (Lit.int .i64 x).wf = true := by
  intro x hx
  obtain ⟨z, p, s, rfl, hz, _, hp, _, _⟩ := h.free x hx
  have h1 := mul_bds (LayOk.of hM.ok) hz
  have h2 := (LayOk.of hM.ok).fb
  have h3 := zN_of hM.ok
  have h4 : 0 ≤ secT l z p ∧ secT l z p ≤ 100000 := by unfold secT; omega
  obtain ⟨k, hk⟩ := Int.eq_ofNat_of_zero_le h4.1
  rw [hk] at h4 ⊢
  exact wf_small k (by omega)
set_option maxRecDepth 100000 in
set_option maxHeartbeats 8000000 in
theorem walk (a0 : Int) (z k : Int) (xs : List Int) (B : Option Addr) (m cb : Nat) (w : World) (_h0 : (Lit.int .i64 a0).wf = true)
    (h2 : IsG w 1 encI B m xs ∧ m ≤ cb ∧ cb ≤ maxLen ∧ (∀ x ∈ xs, (Lit.int .i64 x).wf = true) ∧ (Lit.int .i64 z).wf = true ∧ (Lit.int .i64 k).wf = true) :
    Calls Try.prog 7 #[.int .i64 a0, .agg #[.int .i64 z, .int .i64 k, .slice B m cb]] w fun e w' => e = .returned (.bool true) ∧ Below w.heap.size w w' := by
  obtain ⟨hB, _, _, _, hwz, hwk⟩ := h2
  obtain ⟨V, HV⟩ : ∃ W, Hid (w.alloc (.cells #[.int .i64 z, .int .i64 k, .slice B m cb] 32) = W) := ⟨_, Lib.hid rfl⟩
  obtain ⟨pa, Hpa⟩ : ∃ p, Hid (w.heap.size = p) := ⟨_, Lib.hid rfl⟩
  have RV : Hid (V.cell? ⟨pa, 0, none⟩ = some (.int .i64 z) ∧ V.cell? ⟨pa, 1, none⟩ = some (.int .i64 k) ∧ Below w.heap.size w V) := Lib.hid (by
    rw [← HV.out, ← Hpa.out]
    exact ⟨by simp [go_sem], by simp [go_sem], balloc (Below.refl _ _) _⟩)
  obtain ⟨r0, Hr0⟩ : ∃ r, Hid (a0.tmod 101 = r) := ⟨_, Lib.hid rfl⟩
  have hb0 : -101 < r0 ∧ r0 < 101 := by have := tmod_bd a0 101 (by omega); rw [show ((101 : Nat) : Int) = 101 from rfl, Hr0.out] at this; exact this
  obtain ⟨b00, b01⟩ := hb0
  have hr0 := Hr0.out
  clear hB hwk
  go_enter Try.func7, Try.ntmps7
  go_wp2_with fail
  rw [HV.out, Hpa.out]
  refine (awk17_any V).mono ?_
  rintro e w1 ⟨rfl, b1⟩
  have B1 := Lib.hid b1
  clear b1
  go_upto_if 25 with fail
  go_cut [6] (fun s wx => ∃ v : Nat, v < 101 ∧ s = .int .i64 v ∧ wx = w1)
  case first =>
    by_cases hneg : r0 < 0
    · go_wp2_with fail
      go_meet
      case rel => exact ⟨(-r0).toNat, by omega, by go_num, rfl⟩
    · go_wp2_with fail
      go_meet
      case rel => exact ⟨r0.toNat, by omega, by go_num, rfl⟩
  case rest =>
  obtain ⟨d, hd, rfl, rfl⟩ := hcut
  clear hr0 Hr0 b00 b01
  have HRt : Hid (RightM (freshL (140 + (d : Int))) (freshM (140 + (d : Int)))) := Lib.hid (rightM_iff.1 (fresh_right d hd))
  obtain ⟨l, Hl⟩ : ∃ l, Hid (freshL (140 + (d : Int)) = l) := ⟨_, Lib.hid rfl⟩
  obtain ⟨M, HM⟩ : ∃ l, Hid (freshM (140 + (d : Int)) = l) := ⟨_, Lib.hid rfl⟩
  rw [Hl.out, HM.out] at HRt
  go_wp2_with fail
  refine (fresh_any (140 + (d : Int)) _).mono ?_
  rw [Hl.out, HM.out]
  rintro e w2 ⟨g, rfl, hI, _, hb⟩
  obtain ⟨q, Hq⟩ : ∃ q, Hid (w2.heap.size = q) := ⟨_, Lib.hid rfl⟩
  obtain ⟨W2, HW2⟩ : ∃ W, Hid (w2.alloc (.cells #[.int .i64 l.s, .int .i64 l.n, .int .i64 l.f, .int .i64 l.z] 23) = W) := ⟨_, Lib.hid rfl⟩
  have L2 : Hid (LayAt W2 q l ∧ Below V.heap.size V W2 ∧ IsG W2 1 encT (some ⟨g, 0, none⟩) 4 M) := Lib.hid (by
    have b := balloc (Below.refl w2.heap.size w2) (.cells #[.int .i64 l.s, .int .i64 l.n, .int .i64 l.f, .int .i64 l.z] 23)
    refine ⟨?_, by rw [← HW2.out]; exact bnext (bnext B1.out hb) b, by rw [← HW2.out]; exact hI.below b⟩
    rw [← HW2.out, ← Hq.out]
    exact ⟨by go_simp, by go_simp, by go_simp, by go_simp⟩)
  have a1 := (L2.out.2.1.cell (p := ⟨pa, 1, none⟩) (lt_of_cell RV.out.2.1)).trans RV.out.2.1
  rw [← HW2.out] at a1
  obtain ⟨r1, Hr1⟩ : ∃ r, Hid (k.tmod 20 = r) := ⟨_, Lib.hid rfl⟩
  have hb1 : -20 < r1 ∧ r1 < 20 := by have := tmod_bd k 20 (by omega); rw [show ((20 : Nat) : Int) = 20 from rfl, Hr1.out] at this; exact this
  obtain ⟨b10, b11⟩ := hb1
  have hr1 := Hr1.out
  clear hI hb
  go_upto_if 38 with fail
  rw [HW2.out, Hq.out]
  go_cut [9] (fun s wx => ∃ v : Nat, v < 20 ∧ s = .int .i64 v ∧ wx = W2)
  case first =>
    by_cases hneg : r1 < 0
    · go_wp2_with fail
      go_meet
      case rel => exact ⟨(-r1).toNat, by omega, by go_num, rfl⟩
    · go_wp2_with fail
      go_meet
      case rel => exact ⟨r1.toNat, by omega, by go_num, rfl⟩
  case rest =>
  obtain ⟨kn, hkn, rfl, rfl⟩ := hcut
  clear hr1 Hr1 b10 b11 a1
  obtain ⟨z3, Hz3, hz3⟩ := and_mask17 z 3 (by decide)
  have hk3 : bits .and .i64 z 3 = (z3 : Int) := Hz3.out
  have a0' := (L2.out.2.1.cell (p := ⟨pa, 0, none⟩) (lt_of_cell RV.out.1)).trans RV.out.1
  obtain ⟨e0, e1, e2, e3⟩ := L2.out.1
  go_wp2_with fail
  have hMs : ∀ s ∈ M, s.length ≤ 100000 := fun s hm => by rw [(HRt.out.good s hm).len]; exact Nat.le_trans (size_le _) (by decide)
  have HMs := Lib.hid hMs
  refine (Take_any l (some ⟨g, 0, none⟩) 4 4 M (z3 : Int) (kn : Int) wc L2.out.2.2 (by decide) (fun e => by cases e) hMs).mono ?_
  clear hMs
  have hRM : rightM l M = true := rightM_iff.2 HRt.out
  cases hk : takeOk l M (z3 : Int) (kn : Int) with
  | false =>
    rw [takeV_no hk]
    rintro e w3 ⟨⟨Aa, na, ca, va, rfl, _, _, _, _, _, hv⟩, b3⟩
    obtain rfl : va = .slice none 0 0 := by rcases hv with h | h; exact h; cases h
    have B3 := Lib.hid b3
    have HFk : Hid (freeM l M < (kn : Int)) := Lib.hid (by
      have : ¬ (kn : Int) ≤ freeM l M := fun e => by
        rw [takeOk, hRM, decide_eq_true (by omega : (0 : Int) ≤ (z3 : Int)), decide_eq_true (by omega : (z3 : Int) < 4), decide_eq_true (by omega : (0 : Int) ≤ (kn : Int)), decide_eq_true e] at hk
        cases hk
      omega)
    obtain ⟨fr, Hfr⟩ : ∃ x, Hid (freeM l M = x) := ⟨_, Lib.hid rfl⟩
    have hfk : fr < (kn : Int) := by rw [← Hfr.out]; exact HFk.out
    clear b3 hv e0 e1 e2 e3 a0' hk hRM
    obtain ⟨e0, e1, e2, e3⟩ := L2.out.1.below B3.out
    go_wp2_with fail
    refine (SFree_any l (some ⟨g, 0, none⟩) 4 4 M w3 (L2.out.2.2.below B3.out) HMs.out).mono ?_
    rw [Hfr.out]
    rintro e w4 ⟨rfl, b4⟩
    have B4 : Hid (Below w.heap.size w w4) := Lib.hid (bnext RV.out.2.2 (bnext L2.out.2.1 (bnext B3.out b4)))
    clear b4
    go_wp2
    go_ret
    exact ⟨ret_bool (by first | rfl | simp), B4.out⟩
  | true =>
    have HV2 : Hid (takeV l M (z3 : Int) (kn : Int) = ((takeUp l M z3 kn 4).1, (takeUp l M z3 kn 4).2, true)) := Lib.hid (by rw [takeV, hk]; rfl)
    have HO : Hid (Owe l M (takeUp l M z3 kn 4).1 (takeUp l M z3 kn 4).2) := Lib.hid (takeUp_owe HRt.out z3 kn 4)
    have HS4 : Hid ((takeUp l M z3 kn 4).2.length ≤ 20) := Lib.hid (Nat.le_trans (takeUp_len l M z3 kn 4) (by omega))
    obtain ⟨N, HN⟩ : ∃ x, Hid ((takeUp l M z3 kn 4).1 = x) := ⟨_, Lib.hid rfl⟩
    obtain ⟨S, HS⟩ : ∃ x, Hid ((takeUp l M z3 kn 4).2 = x) := ⟨_, Lib.hid rfl⟩
    rw [HN.out, HS.out] at HV2 HO
    rw [HS.out] at HS4
    rw [HV2.out]
    have HG1 : Hid (giveV l N S = (M, true)) := Lib.hid (giveV_some (rightM_iff.2 HO.out.right) (Owe.all HRt.out S HO.out (List.Perm.refl _)))
    have HG2 : Hid (giveV l N S.reverse = (M, true)) := Lib.hid (giveV_some (rightM_iff.2 HO.out.right) (Owe.all HRt.out S.reverse HO.out (List.reverse_perm S)))
    have HNs : Hid (∀ s ∈ N, s.length ≤ 100000) := Lib.hid (fun s hm => by rw [(HO.out.right.good s hm).len]; exact Nat.le_trans (size_le _) (by decide))
    have Hwf := Lib.hid (owe_wf HRt.out HO.out)
    rintro e w3 ⟨⟨Aa, na, ca, va, rfl, ra, sa, _, _, _, _⟩, b3⟩
    obtain ⟨rfl, hAa, hNa⟩ : na = 4 ∧ (Aa = none → na = 0 ∧ ca = 0) ∧ IsG w3 1 encT Aa 4 N := four_of ra HO.out.right.four
    obtain ⟨As, cs, rfl⟩ := sa.shape
    obtain ⟨sn, Hsn⟩ : ∃ x, Hid (S.length = x) := ⟨_, Lib.hid rfl⟩
    have T3 : Hid (Below wc.heap.size wc w3 ∧ IsG w3 1 encT Aa 4 N ∧ IsG w3 1 encI As sn S ∧ (Aa = none → 4 = 0 ∧ ca = 0)) := Lib.hid ⟨b3, hNa, by rw [← Hsn.out]; exact (sa.is encI_ok).1, hAa⟩
    rw [Hsn.out] at HS4 ⊢
    have hs20 := HS4.out
    clear ra sa b3 hAa hNa e0 e1 e2 e3 a0' hk hRM
    go_wp2_with fail
    go_loopw [13, 14] (fun v i wr => ∃ j : Nat, j ≤ sn ∧ i = .int .i64 ((j : Int) - 1) ∧ Hid (RG wr 1 encI v (S.drop j).reverse ∧ (∀ g, blk v = some g → w3.heap.size ≤ g) ∧ Below w3.heap.size w3 wr)) (fun _ i _ => (intOf i + 1).toNat)
    case atStart => exact ⟨sn, Nat.le_refl _, rfl, Lib.hid ⟨by rw [← Hsn.out, List.drop_length]; exact RG.nil _ _ _, (fun g e => by cases e), Below.refl _ _⟩⟩
    case round =>
      obtain ⟨j, hj, rfl, HQ⟩ := hrel
      obtain ⟨A7, c7, rfl⟩ := HQ.out.1.shape
      obtain ⟨tn, Htn⟩ : ∃ x, Hid ((S.drop j).reverse.length = x) := ⟨_, Lib.hid rfl⟩
      have htn : tn = sn - j := by rw [← Htn.out, List.length_reverse, List.length_drop, Hsn.out]
      rw [Htn.out] at HQ ⊢
      by_cases hj0 : j = 0
      · subst hj0
        clear htn
        have HQ2 : Hid (RG wr 1 encI (.slice A7 tn c7) S.reverse) := Lib.hid (by have := HQ.out.1; rwa [List.drop_zero] at this)
        have B4 : Hid (Below wc.heap.size wc wr) := Lib.hid (bnext T3.out.1 HQ.out.2.2)
        have N4 := Lib.hid (T3.out.2.1.below HQ.out.2.2)
        have S4 := Lib.hid (T3.out.2.2.1.below HQ.out.2.2)
        obtain ⟨e0, e1, e2, e3⟩ := L2.out.1.below B4.out
        go_wp2_with fail
        refine (Give_any l Aa 4 ca N As sn cs S wr N4.out (by decide) T3.out.2.2.2 HNs.out S4.out Hwf.out).mono ?_
        rw [HG1.out]
        rintro e w5 ⟨⟨Ac, nc, cc, rfl, rc, _⟩, b5⟩
        obtain ⟨rfl, _, hc5⟩ := four_of rc HRt.out.four
        have T5 : Hid (Below wr.heap.size wr w5 ∧ IsG w5 1 encT Ac 4 M) := Lib.hid ⟨b5, hc5⟩
        have B5 : Hid (Below wc.heap.size wc w5) := Lib.hid (bnext B4.out b5)
        clear rc b5 hc5 e0 e1 e2 e3
        obtain ⟨e0, e1, e2, e3⟩ := L2.out.1.below B5.out
        go_wp2_with fail
        refine (Give_any l Aa 4 ca N A7 tn c7 S.reverse w5 (N4.out.below T5.out.1) (by decide) T3.out.2.2.2 HNs.out ((HQ2.out.is encI_ok).1.below T5.out.1) (fun x hx => Hwf.out x (List.mem_reverse.1 hx))).mono ?_
        rw [HG2.out]
        rintro e w6 ⟨⟨Ad, nd, cd, rfl, rd, _⟩, b6⟩
        obtain ⟨rfl, _, hc6⟩ := four_of rd HRt.out.four
        have T6 : Hid (Below w5.heap.size w5 w6 ∧ IsG w6 1 encT Ad 4 M) := Lib.hid ⟨b6, hc6⟩
        have B6 : Hid (Below wc.heap.size wc w6) := Lib.hid (bnext B5.out b6)
        clear rd b6 hc6 e0 e1 e2 e3
        go_wp2_with fail
        refine (SameNames_any M M Ac Ad 4 cc 4 cd w6 (T5.out.2.below T6.out.1) T6.out.2 (by decide) (by decide)).mono ?_
        rw [decide_eq_true rfl]
        rintro e w7 ⟨rfl, b7⟩
        have B7 : Hid (Below w5.heap.size w5 w7) := Lib.hid (bnext T6.out.1 b7)
        have C7 : Hid (Below wc.heap.size wc w7) := Lib.hid (bnext B6.out b7)
        clear b7
        go_wp2_with fail
        refine (SameNames_any M M Ac (some ⟨g, 0, none⟩) 4 cc 4 4 w7 (T5.out.2.below B7.out) (L2.out.2.2.below C7.out) (by decide) (by decide)).mono ?_
        rw [decide_eq_true rfl]
        rintro e w8 ⟨rfl, b8⟩
        have B8 : Hid (Below w.heap.size w w8) := Lib.hid (bnext RV.out.2.2 (bnext L2.out.2.1 (bnext C7.out b8)))
        clear b8
        go_wp2
        go_ret
        exact ⟨ret_bool (by first | rfl | simp), B8.out⟩
      · obtain ⟨i, rfl⟩ : ∃ i, j = i + 1 := ⟨j - 1, by omega⟩
        obtain ⟨x, Hx⟩ : ∃ a, Hid (S[i]? = some a) := ⟨S[i]'(by have := Hsn.out; omega), Lib.hid (List.getElem?_eq_getElem _)⟩
        obtain ⟨gx, ox, rfl, hgx, hcx⟩ := (T3.out.2.2.1.below HQ.out.2.2).cells (by omega)
        have d0 := hcx i x 0 _ Hx.out rfl
        rw [Nat.mul_one, Nat.add_zero] at d0
        have Hst := Lib.hid (turn_step Hx.out)
        have hii : ((i + 1 : Nat) : Int) - 1 = (i : Int) := by omega
        rw [hii]
        have hi0 : (0 : Int) ≤ (i : Int) := by omega
        have hin : (i : Int) < (sn : Int) := by omega
        have hinn : i < sn := by omega
        obtain ⟨U, HU⟩ : ∃ u, Hid (wr.alloc (.cells #[.int .i64 x] 3) = u) := ⟨_, Lib.hid rfl⟩
        obtain ⟨sz, Hsz⟩ : ∃ s, Hid (wr.heap.size = s) := ⟨_, Lib.hid rfl⟩
        have hbU : Below wr.heap.size wr U := by rw [← HU.out]; exact balloc (Below.refl _ _) _
        have hI2 : IsG U 1 encI (some ⟨sz, 0, none⟩) 1 [x] := by rw [← HU.out, ← Hsz.out]; exact i_one wr _
        obtain ⟨v8, w8, hr8, r8, a8⟩ := appG iInf encI_ok (HQ.out.1.below hbU) (c := 1) hI2 (by rw [Htn.out]; omega) (by decide) 30
        have HR8 := Lib.hid hr8
        have F8 : Hid (RG w8 1 encI v8 (S.drop i).reverse ∧ (∀ g, blk v8 = some g → w3.heap.size ≤ g) ∧ Below w3.heap.size w3 w8) := Lib.hid (by
          have bU := bnext HQ.out.2.2 hbU
          refine ⟨by rw [Hst.out]; exact r8, fun g e => ?_, a8.mod.below bU bU.size (fun i e => HQ.out.2.1 i e)⟩
          rcases a8.blk with e2 | ⟨g2, e2, h2⟩
          · exact HQ.out.2.1 g (e2 ▸ e)
          · rw [e2] at e
            obtain rfl := Option.some.inj e
            have := bU.size
            omega)
        clear hbU hI2 hr8 r8 a8 hcx htn hii
        obtain ⟨A9, n9, c9, rfl⟩ : ∃ A9 n9 c9, v8 = .slice A9 n9 c9 := by
          obtain ⟨A9, c9, e⟩ := F8.out.1.shape
          exact ⟨A9, _, c9, e⟩
        go_wp2_with (first | (at_builtin; rw [HU.out, Hsz.out]; refine wpList_append_run rfl (.tmp 69) (.tmp 74) 30 rfl (by exact HR8.out) ?_) | fail)
        go_roundw
        case rel => exact ⟨i, by omega, by go_num, F8⟩
        case measure => simp [intOf]
theorem own : ownKnob Try.prog.godebug = none := by kernel_rfl
theorem laidOut : laidOutB Try.prog = true := by kernel_rfl
set_option maxRecDepth 100000 in
theorem lifted (os : Os) (started : os.Started) (H : Type) (enc : TypeId × Value → H) :
    ReturnsInHanded {} Try.checked os 7 .any (Rows.spaceOrderSpec.pre6 enc Try.prog Try.f7 Rows.spaceOrderRow.domain false) (Rows.spaceOrderSpec.post enc Try.prog Try.f7 false true false false) := by
  refine returnsInHanded_of_change (C := Try.checked) own started (by kernel_rfl) Try.func7
    (ChangeSpec.witness6 (enc := enc) (C := Try.checked) false ⟨#[], #[.int .i64 0, .agg #[.int .i64 0, .int .i64 0, .slice none 0 0]], []⟩ 8 (by kernel_rfl) (by kernel_rfl) (by kernel_rfl) (by kernel_rfl)) ?_
  intro W base args ds gs before hval0 hW hcnd _
  have hval : ∀ (j : Nat) t v, Try.f7.params[j]? = some t → args[j]? = some v → Value.okWide Try.prog W .any base t v := hval0
  have hW' := hW
  obtain ⟨p, q, hA0, hV, rfl, hfz, hnd⟩ := hW
  have hA : DataW.TrodAll enc Try.prog W 0 (fun _ => true) true Try.f7.params.toList args.toList ds p := hA0
  rw [Try.params7] at hA hval
  obtain ⟨v0, vs0, d0, ds0, p0, q0, hargs, rfl, rfl, h0, r0⟩ := trodAll_cons hA
  obtain ⟨v1, vs1, d1, ds1, p1, q1, rfl, rfl, rfl, h1, r1⟩ := trodAll_cons r0
  obtain ⟨rfl, rfl, rfl⟩ := trodAll_nil r1
  obtain rfl : args = #[v0, v1] := by cases args; simp_all
  obtain ⟨a0, rfl, rfl, rfl, w0⟩ := open_int Try.underlying3 (hval 0 3 v0 rfl rfl) h0
  obtain ⟨z1, k1, x1, a1, n1, c1, rfl, w1⟩ := open_ask (hval 1 32 v1 rfl rfl) h1
  clear hA0 hval0
  refine (walk a0 z1 k1 x1 a1 n1 c1 W w0 w1).mono fun e W' ⟨he, bel⟩ => ?_
  subst he
  exact ⟨_, rfl, law_post laidOut (by rw [Try.params7]; decide +kernel) rfl Try.underlying4 rfl hW' (fun _ => rfl) bel⟩
theorem over : Rows.spaceOrderRow.holds Try.pinned (OpenSpec.ofChange Rows.spaceOrderSpec) :=
  OpenClaim.holds_of_wide 7 Try.f7 rfl rfl rfl rfl rfl rfl rfl ⟨rfl, rfl, rfl, rfl, rfl⟩ rfl rfl rfl rfl rfl (by kernel_rfl) Try.func7 (by kernel_rfl)
    (of_decide_eq_true (by kernel_rfl)) (by unfold Func.isWrapper; first | (rw [if_pos (by decide +kernel)]; kernel_rfl) | (rw [if_neg (by decide +kernel)]; exact ⟨rfl, rfl⟩))
    (fun os started H enc _ => lifted os started H enc)
theorem proved : Rows.SpaceOrderSaid := over
end Go.Proofs.Ytidclmhlmnhbkaa.spaceOrder
