/- The document's lists: which are right, and their bytes, at this translation. -/
import Derived.Test.YtnoidhfhnaemgaaDoorOe15
import Derived.Test.YtnoidhfhnaemgaaDoorRef01
namespace Go.Proofs.YtnoidhfhnaemgaaDoor
open Go.RowKit

theorem wrongN_doc {l : List Ent} {j : Nat} {z : Ent} (h : l[j]? = some z) : wrongN l j = (!nameB z.1 || (decide (z.2 < 0) || (decide (65535 < z.2) || (decide (0 < j) && !(Op.bytesLess (lastN l j) z.1))))) := by
  rw [wrongN, getD_of h, wrongE]
  cases hn : nameB z.1 with
  | false => rfl
  | true =>
    have e : leB z.1 (lastN l j) = (decide (0 < j) && !(Op.bytesLess (lastN l j) z.1)) := by
      cases j with
      | zero =>
        have h1 := (name_some hn).1
        have h2 : z.1 ≠ [] := fun e => by rw [e] at h1; simp at h1
        rw [leB, lastN]
        cases hz : z.1 with
        | nil => exact absurd hz h2
        | cons a t => simp [Op.bytesLess]
      | succ j => rw [bless_conv, leB]; simp
    have e2 : decide (65536 ≤ z.2) = decide (65535 < z.2) := decide_eq_decide.2 (by omega)
    rw [e, e2]
    cases decide (z.2 < 0) <;> cases decide (65535 < z.2) <;> cases (decide (0 < j) && !(Op.bytesLess (lastN l j) z.1)) <;> rfl
set_option maxRecDepth 100000 in
set_option maxHeartbeats 8000000 in
theorem XRight_any (A : Option Addr) (n c : Nat) (l : List Ent) (w : World) (hl : IsG w 2 encN A n l) :
    Calls Tryd.prog 38 #[.slice A n c] w fun e w' => e = .returned (.bool (rightN l)) ∧ Below w.heap.size w w' := by
  have Hl := Lib.hid hl
  have hlen := hl.length
  have hsm := hl.small
  obtain ⟨R, HR⟩ : ∃ b, Hid (rightN l = b) := ⟨_, Lib.hid rfl⟩
  rw [HR.out]
  have HNo : Hid (∀ j, j < n → wrongN l j = true → R = false) := Lib.hid (fun j hj e => by
    rw [← HR.out]
    cases h : rightN l with
    | false => rfl
    | true =>
      have := rightN_iff.1 h j (by omega)
      rw [e] at this
      cases this)
  clear hl
  go_enter Tryd.func38, Tryd.ntmps38
  go_wp2_with fail
  go_loopw [3] (fun i wr => ∃ j : Nat, i = .int .i64 (j : Int) ∧ j ≤ n ∧ Hid (∀ i, i < j → wrongN l i = false) ∧ Hid (Below w.heap.size w wr)) (fun i _ => n - (intOf i).toNat)
  case atStart => exact ⟨0, rfl, Nat.zero_le _, Lib.hid (fun i h => absurd h (Nat.not_lt_zero _)), Lib.hid (Below.refl _ _)⟩
  case round =>
    obtain ⟨j, rfl, hj, HQ, HB⟩ := hrel
    by_cases hlt : j < n
    · have hjn : (j : Int) < (n : Int) := by omega
      have hj0 : (0 : Int) ≤ (j : Int) := by omega
      obtain ⟨⟨s, x⟩, Hz⟩ : ∃ z, Hid (l[j]? = some z) := ⟨l[j]'(by omega), Lib.hid (List.getElem?_eq_getElem _)⟩
      obtain ⟨g, off, rfl, hg, a0, a1⟩ := (Hl.out.below HB.out).ent Hz.out
      obtain ⟨b, Hb⟩ : ∃ b, Hid (nameB s = b) := ⟨_, Lib.hid rfl⟩
      obtain ⟨Wr, HW⟩ : ∃ b, Hid (wrongN l j = b) := ⟨_, Lib.hid rfl⟩
      have HD := Lib.hid (wrongN_doc Hz.out)
      rw [HW.out, show (s, x).1 = s from rfl, show (s, x).2 = x from rfl, Hb.out] at HD
      have Hgo : Hid (Wr = false → ∀ i, i < j + 1 → wrongN l i = false) := Lib.hid (fun e i hi => by
        rcases Nat.lt_succ_iff_lt_or_eq.1 hi with h | h
        · exact HQ.out i h
        · rw [h, HW.out, e])
      have Hst : Hid (Wr = true → R = false) := Lib.hid (fun e => HNo.out j hlt (by rw [HW.out, e]))
      go_wp2_with fail
      refine (XName_any s wr).mono ?_
      rw [Hb.out]
      rintro e w1 ⟨rfl, b1⟩
      have B1 := Lib.hid (bnext HB.out b1)
      have c1 := (b1.cell (p := ⟨g, off + j * 2 + 1, none⟩) (lt_of_cell a1)).trans a1
      have c0 := (b1.cell (p := ⟨g, off + j * 2, none⟩) (lt_of_cell a0)).trans a0
      clear b1 a0 a1
      cases b with
      | false =>
        have Hr := Lib.hid (Hst.out HD.out)
        go_wp2_with fail
        go_quiet (fail)
        go_wp2
        go_ret
        exact ⟨ret_bool (by rw [Hr.out]), bnext B1.out (below_drewN _ _)⟩
      | true =>
        have q0 : ∀ y : In (Abv w1), y.u.cell? ⟨g, off + j * 2, none⟩ = some (.string (str s)) := fun y => (y.is.cell (p := ⟨g, off + j * 2, none⟩) (lt_of_cell c0)).trans c0
        have q1 : ∀ y : In (Abv w1), y.u.cell? ⟨g, off + j * 2 + 1, none⟩ = some (.int .i64 x) := fun y => (y.is.cell (p := ⟨g, off + j * 2 + 1, none⟩) (lt_of_cell c1)).trans c1
        by_cases h0 : x < 0
        · have d0 : decide (x < 0) = true := decide_eq_true h0
          have Hr := Lib.hid (Hst.out (by rw [HD.out]; simp [h0]))
          go_wp2_with fail
          refine wp_region_mix (by kernel_rfl) (Cls (Abv w1)) ((0, 0) :: (1, 0) :: (2, 0) :: (3, 0) :: (4, 0) :: (5, 0) :: (6, 0) :: (7, 0) :: (8, 0) :: (9, 0) :: (10, 0) :: (11, 0) :: (12, 0) :: (13, 0) :: (14, 0) :: (15, 0) :: (16, 0) :: (17, 0) :: (18, 0) :: (19, 0) :: (20, 0) :: (21, 0) :: (22, 0) :: (23, 0) :: (24, 0) :: (25, 0) :: (26, 0) :: (27, 0) :: (28, 0) :: (29, 0) :: (30, 0) :: (31, 0) :: (32, 0) :: (33, 0) :: (34, 0) :: (35, 0) :: []) (by kernel_rfl) (cls (Below.refl _ _).drew) ?_
          repeat (refine mix0 rfl (fun K hK => ?_); go_simp; (try simp only [d0]); refine hK _ ?_; clear hK K)
          refine mixEnd ?_
          clear q0 q1
          go_wp2
          go_ret
          exact ⟨ret_bool (by rw [Hr.out]), B1.out.drew⟩
        · have d0 : decide (x < 0) = false := decide_eq_false h0
          by_cases h1 : 65535 < x
          · have d1 : decide (65535 < x) = true := decide_eq_true h1
            have Hr := Lib.hid (Hst.out (by rw [HD.out]; simp [h1]))
            go_wp2_with fail
            refine wp_region_mix (by kernel_rfl) (Cls (Abv w1)) ((0, 0) :: (1, 0) :: (2, 0) :: (3, 0) :: (4, 0) :: (5, 0) :: (6, 0) :: (7, 0) :: (8, 0) :: (9, 0) :: (10, 0) :: (11, 0) :: (12, 0) :: (13, 0) :: (14, 0) :: (15, 0) :: (16, 0) :: (17, 0) :: (18, 0) :: (19, 0) :: (20, 0) :: (21, 0) :: (22, 0) :: (23, 0) :: (24, 0) :: (25, 0) :: (26, 0) :: (27, 0) :: (28, 0) :: (29, 0) :: (30, 0) :: (31, 0) :: (32, 0) :: (33, 0) :: (34, 0) :: (35, 0) :: []) (by kernel_rfl) (cls (Below.refl _ _).drew) ?_
            repeat (refine mix0 rfl (fun K hK => ?_); go_simp; (try simp only [d0, d1]); refine hK _ ?_; clear hK K)
            refine mixEnd ?_
            clear q0 q1
            go_wp2
            go_ret
            exact ⟨ret_bool (by rw [Hr.out]), B1.out.drew⟩
          · have d1 : decide (65535 < x) = false := decide_eq_false h1
            by_cases hjz : j = 0
            · have d2 : decide (0 < j) = false := decide_eq_false (by omega)
              have HQ2 := Lib.hid (Hgo.out (by rw [HD.out]; simp [h0, h1, hjz]))
              have hjp : ¬ (0 : Int) < (j : Int) := by omega
              clear hjz
              go_wp2_with fail
              refine wp_region_mix (by kernel_rfl) (Cls (Abv w1)) ((0, 0) :: (1, 0) :: (2, 0) :: (3, 0) :: (4, 0) :: (5, 0) :: (6, 0) :: (7, 0) :: (8, 0) :: (9, 0) :: (10, 0) :: (11, 0) :: (12, 0) :: (13, 0) :: (14, 0) :: (15, 0) :: (16, 0) :: (17, 0) :: (18, 0) :: (19, 0) :: (20, 0) :: (21, 0) :: (22, 0) :: (23, 0) :: (24, 0) :: (25, 0) :: (26, 0) :: (27, 0) :: (28, 0) :: (29, 0) :: (30, 0) :: (31, 0) :: (32, 0) :: (33, 0) :: (34, 0) :: (35, 0) :: []) (by kernel_rfl) (cls (Below.refl _ _).drew) ?_
              repeat (refine mix0 rfl (fun K hK => ?_); go_simp; (try simp only [d0, d1, d2]); refine hK _ ?_; clear hK K)
              refine mixEnd ?_
              clear q0 q1
              go_wp2_with fail
              go_roundw
              case rel => exact ⟨j + 1, by go_num, by omega, HQ2, Lib.hid (B1.out.drew)⟩
              case measure => simp [intOf]; omega
            · have hjp : (0 : Int) < (j : Int) := by omega
              have d2 : decide (0 < j) = true := decide_eq_true (by omega)
              obtain ⟨k, Hk⟩ : ∃ k, Hid (j = k + 1) := ⟨j - 1, Lib.hid (by omega)⟩
              have hkw : IntKind.i64.wrap ((j : Int) - 1) = (k : Int) := by have := Hk.out; rw [IntWalk.i64_in _ (by omega)]; omega
              have hkn : (k : Int) < (n : Int) := by have := Hk.out; omega
              have hknn : k < n := by have := Hk.out; omega
              have hk0 : (0 : Int) ≤ (k : Int) := by omega
              obtain ⟨⟨t, y⟩, Ht⟩ : ∃ z, Hid (l[k]? = some z) := ⟨l[k]'(by omega), Lib.hid (List.getElem?_eq_getElem _)⟩
              obtain ⟨_, _, hAs, _, p0, _⟩ := (Hl.out.below B1.out).ent Ht.out
              injection hAs with hAs
              injection hAs with q1 q2 q3
              subst q1 q2
              have q2 : ∀ y : In (Abv w1), y.u.cell? ⟨g, off + k * 2, none⟩ = some (.string (str t)) := fun y => (y.is.cell (p := ⟨g, off + k * 2, none⟩) (lt_of_cell p0)).trans p0
              have HL : Hid (lastN l j = t) := Lib.hid (by rw [Hk.out, lastN_succ Ht.out])
              cases hls : Op.bytesLess t s with
              | true =>
                have HQ2 := Lib.hid (Hgo.out (by rw [HD.out, HL.out, hls]; simp [h0, h1]))
                clear hjz
                go_wp2_with fail
                refine wp_region_mix (by kernel_rfl) (Cls (Abv w1)) ((0, 0) :: (1, 0) :: (2, 0) :: (3, 0) :: (4, 0) :: (5, 0) :: (6, 0) :: (7, 0) :: (8, 0) :: (9, 0) :: (10, 0) :: (11, 0) :: (12, 0) :: (13, 0) :: (14, 0) :: (15, 0) :: (16, 0) :: (17, 0) :: (18, 0) :: (19, 0) :: (20, 0) :: (21, 0) :: (22, 0) :: (23, 0) :: (24, 0) :: (25, 0) :: (26, 0) :: (27, 0) :: (28, 0) :: (29, 0) :: (30, 0) :: (31, 0) :: (32, 0) :: (33, 0) :: (34, 0) :: (35, 0) :: []) (by kernel_rfl) (cls (Below.refl _ _).drew) ?_
                repeat (refine mix0 rfl (fun K hK => ?_); go_simp; (try simp only [d0, d1, d2, hkw, hls, Bool.not_true]); refine hK _ ?_; clear hK K)
                refine mixEnd ?_
                clear q0 q1 q2
                go_wp2_with fail
                go_roundw
                case rel => exact ⟨j + 1, by go_num, by omega, HQ2, Lib.hid (B1.out.drew)⟩
                case measure => simp [intOf]; omega
              | false =>
                have Hr := Lib.hid (Hst.out (by rw [HD.out, HL.out, hls]; simp; omega))
                clear hjz
                go_wp2_with fail
                refine wp_region_mix (by kernel_rfl) (Cls (Abv w1)) ((0, 0) :: (1, 0) :: (2, 0) :: (3, 0) :: (4, 0) :: (5, 0) :: (6, 0) :: (7, 0) :: (8, 0) :: (9, 0) :: (10, 0) :: (11, 0) :: (12, 0) :: (13, 0) :: (14, 0) :: (15, 0) :: (16, 0) :: (17, 0) :: (18, 0) :: (19, 0) :: (20, 0) :: (21, 0) :: (22, 0) :: (23, 0) :: (24, 0) :: (25, 0) :: (26, 0) :: (27, 0) :: (28, 0) :: (29, 0) :: (30, 0) :: (31, 0) :: (32, 0) :: (33, 0) :: (34, 0) :: (35, 0) :: []) (by kernel_rfl) (cls (Below.refl _ _).drew) ?_
                repeat (refine mix0 rfl (fun K hK => ?_); go_simp; (try simp only [d0, d1, d2, hkw, hls, Bool.not_false]); refine hK _ ?_; clear hK K)
                refine mixEnd ?_
                clear q0 q1 q2
                go_wp2
                go_ret
                exact ⟨ret_bool (by rw [Hr.out]), B1.out.drew⟩
    · obtain rfl : j = n := by omega
      have hjn : ¬ (j : Int) < (j : Int) := by omega
      have Hr : Hid (R = true) := Lib.hid (by rw [← HR.out, rightN_iff, hlen]; exact HQ.out)
      go_wp2
      go_ret
      exact ⟨ret_bool (by rw [Hr.out]), HB.out⟩
set_option maxRecDepth 100000 in
set_option maxHeartbeats 8000000 in
theorem XBytes_any (A : Option Addr) (n c : Nat) (l : List Ent) (w : World) (hl : IsG w 2 encN A n l) (hn : n ≤ 40000) :
    Calls Tryd.prog 21 #[.slice A n c] w fun e w' => e = .returned (.tuple #[.string (str (bytesV l)), .int .i64 (bytesW l)]) ∧ Below w.heap.size w w' := by
  have Hl := Lib.hid hl
  have hlen := hl.length
  clear hl
  obtain ⟨R, HR⟩ : ∃ b, Hid (rightN l = b) := ⟨_, Lib.hid rfl⟩
  have HV : Hid (bytesV l = (if R then bytesN l else []) ∧ bytesW l = if R then 0 else 1) := Lib.hid (by rw [bytesV, bytesW, HR.out]; exact ⟨rfl, rfl⟩)
  rw [HV.out.1, HV.out.2]
  clear HV
  go_enter Tryd.func21, Tryd.ntmps21
  go_wp2_with fail
  refine (XRight_any A n c l w Hl.out).mono ?_
  rw [HR.out]
  rintro e w1 ⟨rfl, b1⟩
  have B1 := Lib.hid b1
  clear b1
  cases R with
  | false =>
    go_wp2_with fail
    go_ret2
    exact ⟨rfl, B1.out⟩
  | true =>
    have HE := Lib.hid (fun e he => right_ent HR.out (e := e) he)
    go_wp2_with fail
    go_loopw [5, 6] (fun v i wr => ∃ (j : Nat) (S : List UInt8), j ≤ n ∧ i = .int .i64 j ∧ v = .string (str S) ∧ S.length ≤ 36 * j ∧ Hid (S = (partsN (l.take j)).flatten) ∧ Hid (Below w.heap.size w wr)) (fun _ i _ => n - (intOf i).toNat)
    case atStart => exact ⟨0, [], Nat.zero_le _, rfl, rfl, by simp, Lib.hid rfl, Lib.hid B1.out⟩
    case round =>
      obtain ⟨j, S, hj, rfl, rfl, hSl, HS, HB⟩ := hrel
      by_cases hlt : j < n
      · have hltI : (j : Int) < (n : Int) := by omega
        obtain ⟨⟨s, x⟩, Hz⟩ : ∃ z, Hid (l[j]? = some z) := ⟨l[j]'(by omega), Lib.hid (List.getElem?_eq_getElem _)⟩
        obtain ⟨g, off, rfl, hg, e0, e1⟩ := (Hl.out.below HB.out).ent Hz.out
        obtain ⟨hs1, hx0, hx1⟩ : nameB s = true ∧ 0 ≤ x ∧ x < 65536 := HE.out _ (List.mem_of_getElem? Hz.out)
        have hs2 := (name_some hs1).2
        have HT : Hid (textS s = be 2 s.length ++ s) := Lib.hid (by rw [textS, if_pos (by omega)])
        have hcv : IntKind.u64.wrap x = x := IntWalk.u64_in _ (by omega)
        obtain ⟨t1, Ht1⟩ : ∃ t, Hid (be 2 s.length ++ s = t) := ⟨_, Lib.hid rfl⟩
        obtain ⟨t2, Ht2⟩ : ∃ t, Hid (be 4 x.toNat = t) := ⟨_, Lib.hid rfl⟩
        have hl1 : t1.length ≤ 32 := by rw [← Ht1.out, List.length_append, be_length]; omega
        have hl2 : t2.length = 4 := by rw [← Ht2.out, be_length]
        have Hst : Hid ((S ++ t1) ++ t2 = (partsN (l.take (j + 1))).flatten) := Lib.hid (by rw [partsN_step Hz.out, partsE, Ht1.out, Ht2.out, List.flatten_append, ← HS.out]; simp)
        rw [Ht1.out] at HT
        have HE0 : Hid (textE s = 0) := Lib.hid (by rw [textE, if_pos (by omega)])
        have hq1 : ¬ 9223372036854775807 < S.length + t1.length := by omega
        have hq2 : ¬ 9223372036854775807 < S.length + t1.length + t2.length := by omega
        have hq3 : ¬ 9223372036854775807 < (S ++ t1).length + t2.length := by rw [List.length_append]; omega
        have hq4 : ¬ 9223372036854775807 < S.length + (t1.length + t2.length) := by omega
        clear hs1
        have Hl2 := Lib.hid hl2
        clear hl2
        go_wp2_with fail
        refine (XText_any s (by unfold maxLen; omega) wr).mono ?_
        rw [HT.out, HE0.out]
        rintro e w2 ⟨rfl, b2⟩
        have B2 := Lib.hid b2
        have d1 := (b2.cell (p := ⟨g, off + j * 2 + 1, none⟩) (lt_of_cell e1)).trans e1
        clear b2 e0 e1
        go_wp2_with fail
        refine (Num4_any x hx0 (by omega) w2).mono ?_
        rw [Ht2.out]
        rintro e w3 ⟨rfl, b3⟩
        have B3 := Lib.hid (bnext HB.out (bnext B2.out b3))
        clear b3 d1 hcv
        go_wp2_with fail
        go_roundw
        case rel => exact ⟨j + 1, (S ++ t1) ++ t2, by omega, by go_num, by first | rfl | simp, by have := Hl2.out; rw [List.length_append, List.length_append]; omega, Hst, B3⟩
        case measure => simp [intOf]; omega
      · obtain rfl : j = n := by omega
        have hltI : ¬ (j : Int) < (j : Int) := by omega
        have HA : Hid (S = bytesN l) := Lib.hid (by rw [HS.out, List.take_of_length_le (by omega)]; rfl)
        go_wp2
        go_ret2
        exact ⟨by rw [← HA.out]; rfl, HB.out⟩
end Go.Proofs.YtnoidhfhnaemgaaDoor
