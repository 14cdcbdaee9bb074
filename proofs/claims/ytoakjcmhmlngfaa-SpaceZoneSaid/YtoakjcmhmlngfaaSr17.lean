/- Which maps are right, how many sectors are free, whether one is taken: the program's and the document's, at this translation. -/
import Derived.Test.YtoakjcmhmlngfaaSc17
namespace Go.Proofs.Ytoakjcmhmlngfaa
open Go.RowKit

theorem rightM_bad {l : Lay} {M : List (List UInt8)} (h : layOk l = false ∨ M.length ≠ 4) : rightM l M = false := by
  unfold rightM
  rcases h with h | h
  · rw [h]; rfl
  · simp [h]
theorem smay_any (l : Lay) (w : World) :
    Calls Try.prog 27 #[l.v] w fun e w' => e = .returned (.bool (layOk l)) ∧ Below w.heap.size w w' := by
  cases hk : layOk l with
  | true =>
    have hne : Hid (layM l ≠ []) := Lib.hid (by
      rw [layM, if_pos hk]
      intro e
      have h1 := congrArg List.length e
      rw [mapM, Bm.setI_length, Bm.setI_length, zeros_length] at h1
      have := (zN_of hk)
      unfold size at h1
      simp at h1
      omega)
    obtain ⟨m, Hm⟩ : ∃ m, Hid (layM l = m) := ⟨_, Lib.hid rfl⟩
    rw [Hm.out] at hne
    have hq : (m != []) = true := by simpa using hne.out
    have hq2 : (m == []) = false := by simpa using hne.out
    go_enter Try.func27, Try.ntmps27
    go_wp2_with fail
    refine (LMap_any l _).mono ?_
    rw [Hm.out]
    rintro e w1 ⟨rfl, b1⟩
    have B1 := Lib.hid (bnext (balloc (Below.refl w.heap.size w) _) b1)
    clear b1
    go_wp2
    go_ret
    exact ⟨ret_bool (by first | exact hq | simp), B1.out⟩
  | false =>
    have hm : Hid (layM l = []) := Lib.hid (by rw [layM, if_neg (by rw [hk]; simp)])
    go_enter Try.func27, Try.ntmps27
    go_wp2_with fail
    refine (LMap_any l _).mono ?_
    rw [hm.out]
    rintro e w1 ⟨rfl, b1⟩
    have B1 := Lib.hid (bnext (balloc (Below.refl w.heap.size w) _) b1)
    clear b1
    go_wp2
    go_ret
    exact ⟨ret_bool (by first | rfl | simp), B1.out⟩
set_option maxHeartbeats 1000000 in
theorem wrong_any (l : Lay) (s : List UInt8) (hs : s.length ≤ 100000) (b : Nat) (w : World) (h : LayAt w b l) :
    Calls Try.prog 25 #[.string (str s), .pointer (some ⟨b, 0, none⟩)] w fun e w' => e = .returned (.bool (!goodM l.z s)) ∧ Below w.heap.size w w' := by
  have h3 := h.c3
  have hg : Hid (goodM l.z s = (rightB s l.z && (Bm.bitI s 0 && Bm.bitI s 1))) := Lib.hid rfl
  rw [hg.out]
  obtain ⟨x, Hx⟩ : ∃ x, Hid (rightB s l.z = x) := ⟨_, Lib.hid rfl⟩
  obtain ⟨y, Hy⟩ : ∃ x, Hid (Bm.bitI s 0 = x) := ⟨_, Lib.hid rfl⟩
  obtain ⟨z, Hz⟩ : ∃ x, Hid (Bm.bitI s 1 = x) := ⟨_, Lib.hid rfl⟩
  rw [Hx.out, Hy.out, Hz.out]
  clear h
  cases x
  · go_enter Try.func25, Try.ntmps25
    go_wp2_with fail
    refine (Right_any s hs l.z _).mono ?_
    rw [Hx.out]
    rintro e w1 ⟨rfl, b1⟩
    have B1 := Lib.hid b1
    clear b1
    go_wp2
    go_ret
    exact ⟨rfl, B1.out⟩
  · cases y
    · go_enter Try.func25, Try.ntmps25
      go_wp2_with fail
      refine (Right_any s hs l.z _).mono ?_
      rw [Hx.out]
      rintro e w1 ⟨rfl, b1⟩
      have B1 := Lib.hid b1
      clear b1
      go_wp2_with fail
      refine (Has_any s hs 0 _).mono ?_
      rw [Hy.out]
      rintro e w2 ⟨rfl, rfl⟩
      go_wp2
      go_ret
      exact ⟨rfl, B1.out⟩
    · go_enter Try.func25, Try.ntmps25
      go_wp2_with fail
      refine (Right_any s hs l.z _).mono ?_
      rw [Hx.out]
      rintro e w1 ⟨rfl, b1⟩
      have B1 := Lib.hid b1
      clear b1
      go_wp2_with fail
      refine (Has_any s hs 0 _).mono ?_
      rw [Hy.out]
      rintro e w2 ⟨rfl, rfl⟩
      go_wp2_with fail
      refine (Has_any s hs 1 _).mono ?_
      rw [Hz.out]
      rintro e w3 ⟨rfl, rfl⟩
      go_wp2
      go_ret
      exact ⟨ret_bool (by cases z <;> rfl), B1.out⟩
set_option maxHeartbeats 2000000 in
theorem SRight_any (l : Lay) (A : Option Addr) (n c : Nat) (M : List (List UInt8)) (w : World) (h : IsG w 1 encT A n M) (hs : ∀ s ∈ M, s.length ≤ 100000) :
    Calls Try.prog 10 #[l.v, .slice A n c] w fun e w' => e = .returned (.bool (rightM l M)) ∧ Below w.heap.size w w' := by
  obtain ⟨W, HW⟩ : ∃ W, Hid (w.alloc (.cells #[.int .i64 l.s, .int .i64 l.n, .int .i64 l.f, .int .i64 l.z] 25) = W) := ⟨_, Lib.hid rfl⟩
  obtain ⟨p, Hp⟩ : ∃ p, Hid (w.heap.size = p) := ⟨_, Lib.hid rfl⟩
  have HL : Hid (LayAt W p l ∧ Below w.heap.size w W) := Lib.hid (by rw [← HW.out, ← Hp.out]; exact ⟨⟨by go_simp, by go_simp, by go_simp, by go_simp⟩, balloc (Below.refl _ _) _⟩)
  obtain ⟨e0, e1, e2, e3⟩ := HL.out.1
  have hG := Lib.hid (h.below HL.out.2)
  have Hlen := Lib.hid h.length
  have hsm := h.small
  clear h
  cases hk : layOk l with
  | false =>
    have HR : Hid (rightM l M = false) := Lib.hid (rightM_bad (.inl hk))
    rw [HR.out]
    go_enter Try.func10, Try.ntmps10
    go_wp2_with fail
    rw [HW.out]
    refine (smay_any l W).mono ?_
    rw [hk]
    rintro e w1 ⟨rfl, b1⟩
    have B1 := Lib.hid (bnext HL.out.2 b1)
    clear b1
    go_wp2
    go_ret
    exact ⟨rfl, B1.out⟩
  | true =>
    by_cases h4 : n = 4
    · subst h4
      have HR : Hid (rightM l M = !(M.any fun s => !goodM l.z s)) := Lib.hid (by
        rw [rightM, hk, Hlen.out]
        simp [List.all_eq_not_any_not])
      rw [HR.out]
      obtain ⟨R, Hr⟩ : ∃ x, Hid (M.any (fun s => !goodM l.z s) = x) := ⟨_, Lib.hid rfl⟩
      rw [Hr.out]
      go_enter Try.func10, Try.ntmps10
      go_wp2_with fail
      rw [HW.out, Hp.out]
      refine (smay_any l W).mono ?_
      rw [hk]
      rintro e w1 ⟨rfl, b1⟩
      have L1 : Hid (LayAt w1 p l ∧ Below w.heap.size w w1 ∧ IsG w1 1 encT A 4 M) := Lib.hid ⟨HL.out.1.below b1, bnext HL.out.2 b1, hG.out.below b1⟩
      clear b1
      go_wp2_with fail
      refine (ContS_any w1 A 4 c M L1.out.2.2 25 (.pointer (some ⟨p, 0, none⟩)) (fun s => !goodM l.z s) ⟨fun _ _ => rfl, fun u s hu hm => wrong_any l s (hs s hm) p u (L1.out.1.below hu)⟩).mono ?_
      rw [Hr.out]
      rintro e w2 ⟨rfl, b2⟩
      have B2 := Lib.hid (bnext L1.out.2.1 b2)
      clear b2
      go_wp2
      go_ret
      exact ⟨rfl, B2.out⟩
    · have HR : Hid (rightM l M = false) := Lib.hid (rightM_bad (.inr (by rw [Hlen.out]; exact h4)))
      have h4' : ((n : Int) == 4) = false := by simpa using (by omega : ¬ (n : Int) = 4)
      rw [HR.out]
      clear h4
      go_enter Try.func10, Try.ntmps10
      go_wp2_with fail
      rw [HW.out]
      refine (smay_any l W).mono ?_
      rw [hk]
      rintro e w1 ⟨rfl, b1⟩
      have B1 := Lib.hid (bnext HL.out.2 b1)
      clear b1
      go_wp2
      go_ret
      exact ⟨rfl, B1.out⟩
theorem takenN_take {M : List (List UInt8)} {j : Nat} {s : List UInt8} (h : M[j]? = some s) : takenN (M.take (j + 1)) = takenN (M.take j) + Bm.count s := by
  obtain ⟨h1, e1⟩ := List.getElem?_eq_some_iff.1 h
  rw [List.take_succ_eq_append_getElem h1, e1]
  simp [takenN]
theorem takenN_le {z : Nat} {M : List (List UInt8)} (h : ∀ s ∈ M, Good z s) : takenN M ≤ M.length * z := by
  induction M with
  | nil => simp [takenN]
  | cons a M ih =>
    have h1 := (h a (by simp)).count_le
    have h2 := ih fun s hs => h s (by simp [hs])
    simp only [takenN, List.map_cons, List.sum_cons, List.length_cons, Nat.add_mul] at *
    omega
set_option maxHeartbeats 2000000 in
theorem SFree_any (l : Lay) (A : Option Addr) (n c : Nat) (M : List (List UInt8)) (w : World) (h : IsG w 1 encT A n M) (hs : ∀ s ∈ M, s.length ≤ 100000) :
    Calls Try.prog 7 #[l.v, .slice A n c] w fun e w' => e = .returned (.int .i64 (freeM l M)) ∧ Below w.heap.size w w' := by
  obtain ⟨W, HW⟩ : ∃ W, Hid (w.alloc (.cells #[.int .i64 l.s, .int .i64 l.n, .int .i64 l.f, .int .i64 l.z] 25) = W) := ⟨_, Lib.hid rfl⟩
  obtain ⟨p, Hp⟩ : ∃ p, Hid (w.heap.size = p) := ⟨_, Lib.hid rfl⟩
  have HL : Hid (LayAt W p l ∧ Below w.heap.size w W) := Lib.hid (by rw [← HW.out, ← Hp.out]; exact ⟨⟨by go_simp, by go_simp, by go_simp, by go_simp⟩, balloc (Below.refl _ _) _⟩)
  obtain ⟨e0, e1, e2, e3⟩ := HL.out.1
  have hG := Lib.hid (h.below HL.out.2)
  have Hlen := Lib.hid h.length
  have hsm := h.small
  clear h
  cases hk : rightM l M with
  | false =>
    have HF : Hid (freeM l M = 0) := Lib.hid (by rw [freeM, hk]; rfl)
    rw [HF.out]
    go_enter Try.func7, Try.ntmps7
    go_wp2_with fail
    rw [HW.out]
    refine (SRight_any l A n c M W hG.out hs).mono ?_
    rw [hk]
    rintro e w1 ⟨rfl, b1⟩
    have B1 := Lib.hid (bnext HL.out.2 b1)
    clear b1
    go_wp2
    go_ret
    exact ⟨rfl, B1.out⟩
  | true =>
    have hR := rightM_iff.1 hk
    have HF : Hid (freeM l M = 4 * l.z - takenN M) := Lib.hid (by rw [freeM, hk]; rfl)
    have hz := zN_of hR.ok
    have htn := takenN_le hR.good
    have HT : Hid (takenN M ≤ 4 * zN l) := Lib.hid (by rw [hR.four] at htn; exact htn)
    have HGd := Lib.hid hR.good
    rw [HF.out]
    obtain ⟨zz, Hzz⟩ : ∃ x, Hid (zN l = x) := ⟨_, Lib.hid rfl⟩
    rw [Hzz.out] at hz HT HGd
    obtain ⟨hz1, hz2, hz3⟩ := hz
    have Hz1 := Lib.hid hz1
    have n4 : Hid (n = 4) := Lib.hid (by rw [← Hlen.out]; exact hR.four)
    clear hR htn
    rw [Hz1.out] at e3
    clear hz1
    go_enter Try.func7, Try.ntmps7
    go_wp2_with fail
    rw [HW.out]
    refine (SRight_any l A n c M W hG.out hs).mono ?_
    rw [hk]
    rintro e w1 ⟨rfl, b1⟩
    have L1 : Hid (LayAt w1 p l ∧ Below w.heap.size w w1 ∧ IsG w1 1 encT A n M) := Lib.hid ⟨HL.out.1.below b1, bnext HL.out.2 b1, hG.out.below b1⟩
    have f3 : w1.cell? ⟨p, 3, none⟩ = some (.int .i64 (zz : Int)) := by have := L1.out.1.c3; rw [Hz1.out] at this; exact this
    clear b1
    rw [Hp.out]
    go_wp2_with fail
    go_loopw [5, 17] (fun q i wr => ∃ j : Nat, j ≤ n ∧ i = .int .i64 j ∧ q = .int .i64 (4 * (zz : Int) - (takenN (M.take j) : Nat)) ∧ wr = w1) (fun _ i _ => n - (intOf i).toNat)
    case atStart => exact ⟨0, Nat.zero_le _, rfl, by simp [takenN], rfl⟩
    case round =>
      obtain ⟨j, hj, rfl, rfl, hw⟩ := hrel
      subst hw
      by_cases hlt : j < n
      · obtain ⟨s, Hs⟩ : ∃ a, Hid (M[j]? = some a) := ⟨M[j]'(by have := Hlen.out; omega), Lib.hid (List.getElem?_eq_getElem _)⟩
        obtain ⟨g, off, rfl, hgl, hc⟩ := L1.out.2.2.cells (by omega)
        have d0 := hc j s 0 _ Hs.out rfl
        rw [Nat.mul_one, Nat.add_zero] at d0
        have hst := takenN_take Hs.out
        have hmem := List.mem_of_getElem? Hs.out
        have hcl := (HGd.out s hmem).count_le
        have htj : takenN (M.take j) ≤ j * zz := by
          have := takenN_le (z := zz) (M := M.take j) (fun s hs => HGd.out s (List.mem_of_mem_take hs))
          rw [List.length_take] at this
          refine Nat.le_trans this (Nat.mul_le_mul_right _ (by omega))
        have hj4 : j ≤ 3 := by have := n4.out; omega
        have htj2 : takenN (M.take j) ≤ 12000 := Nat.le_trans htj (Nat.le_trans (Nat.mul_le_mul hj4 hz3) (by decide))
        obtain ⟨T, HT1⟩ : ∃ T, Hid (takenN (M.take j) = T) := ⟨_, Lib.hid rfl⟩
        obtain ⟨C, HC1⟩ : ∃ C, Hid (Bm.count s = C) := ⟨_, Lib.hid rfl⟩
        have Hst := Lib.hid hst
        rw [HT1.out, HC1.out] at Hst
        rw [HT1.out] at htj2 ⊢
        rw [HC1.out] at hcl
        have hsl := hs s hmem
        clear hc hst htj hmem
        go_wp2_with fail
        refine (Count_any s hsl _).mono ?_
        rw [HC1.out]
        rintro e w2 ⟨rfl, rfl⟩
        go_wp2
        go_roundw
        case rel => exact ⟨j + 1, by omega, by go_num, by rw [Hst.out]; first | rfl | (congr 1; omega), by first | rfl | trivial⟩
        case measure => simp [intOf]; omega
      · obtain rfl : j = n := by omega
        have e : M.take j = M := List.take_of_length_le (by have := Hlen.out; omega)
        rw [e]
        go_wp2
        go_ret
        exact ⟨ret_int (by rw [Hz1.out]), L1.out.2.1⟩
end Go.Proofs.Ytoakjcmhmlngfaa
