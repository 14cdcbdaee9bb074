/- The document's words of maps, at this translation: the same answers. -/
import Derived.Test.YtidclmhlmnhbkaaLb17
namespace Go.Proofs.Ytidclmhlmnhbkaa
open Go.RowKit

theorem rightM_not {l : Lay} {M : List (List UInt8)} {s : List UInt8} (h : s ∈ M) (hg : goodM l.z s = false) : rightM l M = false := by
  cases hk : rightM l M with
  | false => rfl
  | true =>
    rw [rightM, Bool.and_eq_true, Bool.and_eq_true, List.all_eq_true] at hk
    rw [hk.2.2 s h] at hg
    exact hg
theorem rightM_yes {l : Lay} {M : List (List UInt8)} (hk : layOk l = true) (h4 : M.length = 4) (h : ∀ s ∈ M, goodM l.z s = true) : rightM l M = true := by
  rw [rightM, Bool.and_eq_true, Bool.and_eq_true, List.all_eq_true]
  exact ⟨hk, by simpa using h4, h⟩
set_option maxHeartbeats 2000000 in
theorem YRight_any (l : Lay) (A : Option Addr) (n c : Nat) (M : List (List UInt8)) (w : World) (h : IsG w 1 encT A n M) (hs : ∀ s ∈ M, s.length ≤ 100000) :
    Calls Try.prog 11 #[l.v, .slice A n c] w fun e w' => e = .returned (.bool (rightM l M)) ∧ Below w.heap.size w w' := by
  obtain ⟨W, p, HW, Hp, HL⟩ := layBoxed l w
  obtain ⟨e0, e1, e2, e3⟩ := HL.out.1
  have hG := Lib.hid (h.below HL.out.2)
  have Hlen := Lib.hid h.length
  have hsm := h.small
  clear h
  cases hk : layOk l with
  | false =>
    have HR : Hid (rightM l M = false) := Lib.hid (rightM_bad (.inl hk))
    rw [HR.out]
    go_enter Try.func11, Try.ntmps11
    go_wp2_with fail
    rw [HW.out]
    refine (Is_any l W).mono ?_
    rw [hk]
    rintro e w1 ⟨rfl, b1⟩
    have B1 := Lib.hid (bnext HL.out.2 b1)
    clear b1
    go_wp2
    go_ret
    exact ⟨rfl, B1.out⟩
  | true =>
    by_cases h4 : n = 4
    · subst h4
      go_enter Try.func11, Try.ntmps11
      go_wp2_with fail
      rw [HW.out, Hp.out]
      refine (Is_any l W).mono ?_
      rw [hk]
      rintro e w1 ⟨rfl, b1⟩
      have L1 : Hid (LayAt w1 p l ∧ Below w.heap.size w w1 ∧ IsG w1 1 encT A 4 M) := Lib.hid ⟨HL.out.1.below b1, bnext HL.out.2 b1, hG.out.below b1⟩
      clear b1 e0 e1 e2 e3
      go_wp2_with fail
      go_loopw [6] (fun i wr => ∃ j : Nat, j ≤ 4 ∧ i = .int .i64 j ∧ Hid (∀ s ∈ M.take j, goodM l.z s = true) ∧ Hid (Below w1.heap.size w1 wr)) (fun i _ => 4 - (intOf i).toNat)
      case atStart => exact ⟨0, Nat.zero_le _, rfl, Lib.hid (by simp), Lib.hid (Below.refl _ _)⟩
      case round =>
        obtain ⟨j, hj, rfl, HG, HB⟩ := hrel
        by_cases hlt : j < 4
        · obtain ⟨s, Hs⟩ : ∃ a, Hid (M[j]? = some a) := ⟨M[j]'(by have := Hlen.out; omega), Lib.hid (List.getElem?_eq_getElem _)⟩
          have Lr : Hid (LayAt wr p l ∧ IsG wr 1 encT A 4 M) := Lib.hid ⟨L1.out.1.below HB.out, L1.out.2.2.below HB.out⟩
          have e3 := Lr.out.1.c3
          have hpl := Lr.out.1.lt
          obtain ⟨g, off, rfl, hgl, hc⟩ := Lr.out.2.cells (by omega)
          have d0 := hc j s 0 _ Hs.out rfl
          rw [Nat.mul_one, Nat.add_zero] at d0
          have hmem := List.mem_of_getElem? Hs.out
          have hsl := hs s hmem
          have Hmem := Lib.hid hmem
          clear hc hmem
          obtain ⟨x, Hx⟩ : ∃ t, Hid (rightB s l.z = t) := ⟨_, Lib.hid rfl⟩
          obtain ⟨y, Hy⟩ : ∃ t, Hid (Bm.bitI s 0 = t) := ⟨_, Lib.hid rfl⟩
          obtain ⟨zz, Hz⟩ : ∃ t, Hid (Bm.bitI s 1 = t) := ⟨_, Lib.hid rfl⟩
          have Hg : Hid (goodM l.z s = (x && (y && zz))) := Lib.hid (by rw [goodM, Hx.out, Hy.out, Hz.out])
          have q3 : ∀ y : In (Abv wr), y.u.cell? ⟨p, 3, none⟩ = some (.int .i64 l.z) := fun y => (y.is.cell (p := ⟨p, 3, none⟩) hpl).trans e3
          have q4 : ∀ y : In (Abv wr), y.u.cell? ⟨g, off + j, none⟩ = some (.string (str s)) := fun y => (y.is.cell (p := ⟨g, off + j, none⟩) hgl).trans d0
          go_wp2_with fail
          refine wp_region_mix (by kernel_rfl) (Cls (Abv wr)) [(0, 0), (1, 0), (2, 0), (3, 0), (4, 0), (5, 0), (6, 1), (7, 0)] (by kernel_rfl) (cls (Below.refl _ _).drew) ?_
          repeat (refine mix0 rfl (fun K hK => ?_); go_simp; refine hK _ ?_; clear hK K)
          refine mix1 rfl (fun K hK => ?_)
          go_simp
          refine (XRight_any s hsl l.z _).mono ?_
          rw [Hx.out]
          rintro e w2 ⟨rfl, rfl⟩
          refine ⟨_, rfl, hK _ _ (cls (Below.refl _ _).drew) ?_⟩
          clear hK K
          repeat (refine mix0 rfl (fun K hK => ?_); go_simp; refine hK _ ?_; clear hK K)
          refine mixEnd ?_
          clear q3 q4
          obtain ⟨wd, Hwd⟩ : ∃ u, Hid (wr.drew = u) := ⟨_, Lib.hid rfl⟩
          have Bd : Hid (Below w1.heap.size w1 wd) := Lib.hid (by rw [← Hwd.out]; exact HB.out.drew)
          have d1 : wd.cell? ⟨g, off + j, none⟩ = some (.string (str s)) := by rw [← Hwd.out]; exact d0
          rw [Hwd.out]
          clear d0 e3
          go_wp2_with fail
          refine (XHas_any s hsl 0 (by decide) _).mono ?_
          rw [Hy.out]
          rintro e w3 ⟨rfl, rfl⟩
          go_wp2_with fail
          refine (XHas_any s hsl 1 (by decide) _).mono ?_
          rw [Hz.out]
          rintro e w4 ⟨rfl, rfl⟩
          cases x
          · have HRf : Hid (rightM l M = false) := Lib.hid (rightM_not Hmem.out (by rw [Hg.out]; rfl))
            go_wp2
            go_ret
            exact ⟨ret_bool HRf.out.symm, bnext L1.out.2.1 Bd.out⟩
          · cases y
            · have HRf : Hid (rightM l M = false) := Lib.hid (rightM_not Hmem.out (by rw [Hg.out]; rfl))
              go_wp2
              go_ret
              exact ⟨ret_bool HRf.out.symm, bnext L1.out.2.1 Bd.out⟩
            · cases zz
              · have HRf : Hid (rightM l M = false) := Lib.hid (rightM_not Hmem.out (by rw [Hg.out]; rfl))
                go_wp2
                go_ret
                exact ⟨ret_bool HRf.out.symm, bnext L1.out.2.1 Bd.out⟩
              · have HG2 : Hid (∀ s ∈ M.take (j + 1), goodM l.z s = true) := Lib.hid (by
                  obtain ⟨h1, e1⟩ := List.getElem?_eq_some_iff.1 Hs.out
                  rw [List.take_succ_eq_append_getElem h1, e1]
                  intro t ht
                  rcases List.mem_append.1 ht with ht | ht
                  · exact HG.out t ht
                  · rw [List.mem_singleton.1 ht]; exact Hg.out)
                go_wp2
                go_roundw
                case rel => exact ⟨j + 1, by omega, by go_num, HG2, Bd⟩
                case measure => simp [intOf]; omega
        · obtain rfl : j = 4 := by omega
          have HRt : Hid (rightM l M = true) := Lib.hid (rightM_yes hk Hlen.out (by have := HG.out; rwa [List.take_of_length_le (by have := Hlen.out; omega)] at this))
          go_wp2
          go_ret
          exact ⟨ret_bool HRt.out.symm, bnext L1.out.2.1 HB.out⟩
    · have HR : Hid (rightM l M = false) := Lib.hid (rightM_bad (.inr (by rw [Hlen.out]; exact h4)))
      have h4' : ((n : Int) != 4) = true := by simpa using (by omega : ¬ (n : Int) = 4)
      rw [HR.out]
      clear h4
      go_enter Try.func11, Try.ntmps11
      go_wp2_with fail
      rw [HW.out]
      refine (Is_any l W).mono ?_
      rw [hk]
      rintro e w1 ⟨rfl, b1⟩
      have B1 := Lib.hid (bnext HL.out.2 b1)
      clear b1
      go_wp2
      go_ret
      exact ⟨rfl, B1.out⟩
/-- Free bits ahead of k. -/
def fUp (s : List UInt8) (k : Nat) : Nat := ((List.range k).filter fun k => !Bm.bit s k).length
theorem fUp_succ (s : List UInt8) (k : Nat) : fUp s (k + 1) = fUp s k + (if Bm.bit s k then 0 else 1) := by
  rw [fUp, List.range_succ, List.filter_append, List.length_append, ← fUp]
  cases h : Bm.bit s k <;> simp [h]
theorem fUp_le (s : List UInt8) (k : Nat) : fUp s k ≤ k := by
  have := List.length_filter_le (fun k => !Bm.bit s k) (List.range k)
  rw [List.length_range] at this
  exact this
def freeN (z : Nat) (M : List (List UInt8)) : Nat := (M.map fun s => fUp s z).sum
theorem freeN_take {z : Nat} {M : List (List UInt8)} {j : Nat} {s : List UInt8} (h : M[j]? = some s) : freeN z (M.take (j + 1)) = freeN z (M.take j) + fUp s z := by
  obtain ⟨h1, e1⟩ := List.getElem?_eq_some_iff.1 h
  rw [List.take_succ_eq_append_getElem h1, e1]
  simp [freeN]
theorem freeN_le (z : Nat) (M : List (List UInt8)) : freeN z M ≤ M.length * z := by
  induction M with
  | nil => simp [freeN]
  | cons a M ih =>
    have h1 := fUp_le a z
    simp only [freeN, List.map_cons, List.sum_cons, List.length_cons, Nat.add_mul] at *
    omega
theorem freeN_taken {z : Nat} {M : List (List UInt8)} (h : ∀ s ∈ M, Good z s) : freeN z M + takenN M = M.length * z := by
  induction M with
  | nil => simp [freeN, takenN]
  | cons a M ih =>
    have h1 := frees_count a z
    have h2 := count_good (h a (by simp))
    have h3 := ih fun s hs => h s (by simp [hs])
    have h4 : fUp a z = (frees a z).length := rfl
    simp only [freeN, takenN, List.map_cons, List.sum_cons, List.length_cons, Nat.add_mul] at *
    omega
set_option maxHeartbeats 2000000 in
theorem YFree_any (l : Lay) (A : Option Addr) (n c : Nat) (M : List (List UInt8)) (w : World) (h : IsG w 1 encT A n M) (hs : ∀ s ∈ M, s.length ≤ 100000) :
    Calls Try.prog 13 #[l.v, .slice A n c] w fun e w' => e = .returned (.int .i64 (freeM l M)) ∧ Below w.heap.size w w' := by
  obtain ⟨W, p, HW, Hp, HL⟩ := layBoxed l w
  obtain ⟨e0, e1, e2, e3⟩ := HL.out.1
  have hG := Lib.hid (h.below HL.out.2)
  have Hlen := Lib.hid h.length
  have hsm := h.small
  clear h
  cases hk : rightM l M with
  | false =>
    have HF : Hid (freeM l M = 0) := Lib.hid (by rw [freeM, hk]; rfl)
    rw [HF.out]
    go_enter Try.func13, Try.ntmps13
    go_wp2_with fail
    rw [HW.out]
    refine (YRight_any l A n c M W hG.out hs).mono ?_
    rw [hk]
    rintro e w1 ⟨rfl, b1⟩
    have B1 := Lib.hid (bnext HL.out.2 b1)
    clear b1
    go_wp2
    go_ret
    exact ⟨rfl, B1.out⟩
  | true =>
    have hR := rightM_iff.1 hk
    have hz := zN_of hR.ok
    have n4 : n = 4 := by rw [← Hlen.out]; exact hR.four
    have HF : Hid (freeM l M = (freeN (zN l) M : Nat)) := Lib.hid (by
      rw [freeM, hk, hz.1]
      have := freeN_taken hR.good
      rw [hR.four] at this
      simp only [if_true]
      omega)
    rw [HF.out]
    subst n4
    obtain ⟨zz, Hzz⟩ : ∃ x, Hid (zN l = x) := ⟨_, Lib.hid rfl⟩
    rw [Hzz.out] at hz HF ⊢
    obtain ⟨hz1, hz2, hz3⟩ := hz
    have Hz1 := Lib.hid hz1
    clear hR hz1
    go_enter Try.func13, Try.ntmps13
    go_wp2_with fail
    rw [HW.out, Hp.out]
    refine (YRight_any l A 4 c M W hG.out hs).mono ?_
    rw [hk]
    rintro e w1 ⟨rfl, b1⟩
    have L1 : Hid (LayAt w1 p l ∧ Below w.heap.size w w1 ∧ IsG w1 1 encT A 4 M) := Lib.hid ⟨HL.out.1.below b1, bnext HL.out.2 b1, hG.out.below b1⟩
    have f3 : w1.cell? ⟨p, 3, none⟩ = some (.int .i64 (zz : Int)) := by have := L1.out.1.c3; rw [Hz1.out] at this; exact this
    clear b1 e0 e1 e2 e3
    go_wp2_with fail
    go_loopw [6, 7] (fun q i wr => ∃ j : Nat, j ≤ 4 ∧ i = .int .i64 j ∧ q = .int .i64 (freeN zz (M.take j) : Nat) ∧ wr = w1) (fun _ i _ => 4 - (intOf i).toNat)
    case atStart => exact ⟨0, Nat.zero_le _, rfl, by simp [freeN], rfl⟩
    case round =>
      obtain ⟨j, hj, rfl, rfl, hw⟩ := hrel
      subst hw
      by_cases hlt : j < 4
      · obtain ⟨s, Hs⟩ : ∃ a, Hid (M[j]? = some a) := ⟨M[j]'(by have := Hlen.out; omega), Lib.hid (List.getElem?_eq_getElem _)⟩
        obtain ⟨g, off, rfl, hgl, hc⟩ := L1.out.2.2.cells (by omega)
        have d0 := hc j s 0 _ Hs.out rfl
        rw [Nat.mul_one, Nat.add_zero] at d0
        have Hst := Lib.hid (freeN_take (z := zz) Hs.out)
        have hsl := hs s (List.mem_of_getElem? Hs.out)
        have hT : freeN zz (M.take j) ≤ 12000 := by
          have := freeN_le zz (M.take j)
          rw [List.length_take] at this
          exact Nat.le_trans this (Nat.le_trans (Nat.mul_le_mul (Nat.le_trans (Nat.min_le_left _ _) (by omega : j ≤ 3)) hz3) (by decide))
        obtain ⟨T, HT⟩ : ∃ T, Hid (freeN zz (M.take j) = T) := ⟨_, Lib.hid rfl⟩
        rw [HT.out] at Hst hT ⊢
        clear hc
        go_wp2_with fail
        try rw [show decide ((j : Int) < 4) = true from decide_eq_true (by omega)]
        go_loopw [6, 8] (fun q i wq => ∃ k : Nat, k ≤ zz ∧ i = .int .i64 k ∧ q = .int .i64 ((T + fUp s k : Nat) : Int) ∧ wq = wr) (fun _ i _ => zz - (intOf i).toNat)
        case atStart => exact ⟨0, Nat.zero_le _, rfl, by simp [fUp], rfl⟩
        case round =>
          obtain ⟨k, hk2, rfl, rfl, hw⟩ := hrel
          subst hw
          by_cases hkl : k < zz
          · have Hsu := Lib.hid (fUp_succ s k)
            have hfl := fUp_le s k
            obtain ⟨F, HF2⟩ : ∃ F, Hid (fUp s k = F) := ⟨_, Lib.hid rfl⟩
            rw [HF2.out] at Hsu hfl ⊢
            go_wp2_with fail
            refine (XHas_any s hsl (k : Int) (by omega) _).mono ?_
            rw [Bm.bitI_nat]
            rintro e w2 ⟨rfl, rfl⟩
            cases hb : Bm.bit s k
            · rw [hb] at Hsu
              go_wp2
              go_roundw
              case rel => exact ⟨k + 1, by omega, by go_num, by rw [Hsu.out]; first | go_num | (simp only [Bool.false_eq_true, if_false]; first | rfl | (congr 1; omega)), by first | rfl | trivial⟩
              case measure => simp [intOf]; omega
            · rw [hb] at Hsu
              go_wp2
              go_roundw
              case rel => exact ⟨k + 1, by omega, by go_num, by rw [Hsu.out]; first | rfl | (simp only [if_true]; rfl), by first | rfl | trivial⟩
              case measure => simp [intOf]; omega
          · obtain rfl : k = zz := by omega
            go_wp2
            go_roundw
            case rel => exact ⟨j + 1, by omega, by go_num, by rw [Hst.out], by first | rfl | trivial⟩
            case measure => simp [intOf]; omega
      · obtain rfl : j = 4 := by omega
        have e : M.take 4 = M := List.take_of_length_le (by have := Hlen.out; omega)
        rw [e]
        go_wp2
        go_ret
        exact ⟨rfl, L1.out.2.1⟩
set_option maxRecDepth 100000 in
set_option maxHeartbeats 4000000 in
theorem YTaken_any (l : Lay) (A : Option Addr) (n c : Nat) (M : List (List UInt8)) (x : Int) (hx : (Lit.int .i64 x).wf = true) (w : World) (h : IsG w 1 encT A n M) (hs : ∀ s ∈ M, s.length ≤ 100000) :
    Calls Try.prog 15 #[l.v, .slice A n c, .int .i64 x] w fun e w' => e = .returned (.bool (takenM l M x)) ∧ Below w.heap.size w w' := by
  obtain ⟨W, p, HW, Hp, HL⟩ := layBoxed l w
  obtain ⟨e0, e1, e2, e3⟩ := HL.out.1
  have hG := Lib.hid (h.below HL.out.2)
  have Hlen := Lib.hid h.length
  have hsm := h.small
  clear h
  obtain ⟨zv, Hzv⟩ : ∃ t, Hid ((layZP l x).1 = t) := ⟨_, Lib.hid rfl⟩
  obtain ⟨pv, Hpv⟩ : ∃ t, Hid ((layZP l x).2 = t) := ⟨_, Lib.hid rfl⟩
  cases hk : rightM l M with
  | false =>
    have HT : Hid (takenM l M x = false) := Lib.hid (takenM_no hk)
    rw [HT.out]
    go_enter Try.func15, Try.ntmps15
    go_wp2_with fail
    rw [HW.out, Hp.out]
    refine (YRight_any l (A) n c M W hG.out hs).mono ?_
    rw [hk]
    rintro e w1 ⟨rfl, b1⟩
    have L1 : Hid (LayAt w1 p l ∧ Below w.heap.size w w1 ∧ IsG w1 1 encT (A) n M) := Lib.hid ⟨HL.out.1.below b1, bnext HL.out.2 b1, hG.out.below b1⟩
    clear b1 e0 e1 e2 e3
    obtain ⟨e0, e1, e2, e3⟩ := L1.out.1
    go_wp2_with fail
    refine (XZone_any l x hx _).mono ?_
    rw [Hzv.out]
    rintro e w2 ⟨rfl, b2⟩
    have B2 : Hid (Below w1.heap.size w1 w2 ∧ Below w.heap.size w w2 ∧ LayAt w2 p l ∧ IsG w2 1 encT (A) n M) := Lib.hid ⟨b2, bnext L1.out.2.1 b2, L1.out.1.below b2, L1.out.2.2.below b2⟩
    clear b2 e0 e1 e2 e3
    obtain ⟨e0, e1, e2, e3⟩ := B2.out.2.2.1
    have hpl := B2.out.2.2.1.lt
    have q0 : ∀ y : In (Abv w2), y.u.cell? ⟨p, 0, none⟩ = some (.int .i64 l.s) := fun y => (y.is.cell (p := ⟨p, 0, none⟩) hpl).trans e0
    have q1 : ∀ y : In (Abv w2), y.u.cell? ⟨p, 1, none⟩ = some (.int .i64 l.n) := fun y => (y.is.cell (p := ⟨p, 1, none⟩) hpl).trans e1
    have q2 : ∀ y : In (Abv w2), y.u.cell? ⟨p, 2, none⟩ = some (.int .i64 l.f) := fun y => (y.is.cell (p := ⟨p, 2, none⟩) hpl).trans e2
    have q3 : ∀ y : In (Abv w2), y.u.cell? ⟨p, 3, none⟩ = some (.int .i64 l.z) := fun y => (y.is.cell (p := ⟨p, 3, none⟩) hpl).trans e3
    go_wp2_with fail
    refine wp_region_mix (by kernel_rfl) (Cls (Abv w2)) ((0, 0) :: (1, 0) :: (2, 0) :: (3, 0) :: (4, 0) :: (5, 0) :: (6, 0) :: (7, 0) :: (8, 0) :: (9, 0) :: (10, 0) :: (11, 0) :: (12, 1) :: (13, 1) :: (14, 0) :: (15, 0) :: []) (by kernel_rfl) (cls (Below.refl _ _).drew) ?_
    repeat (refine mix0 rfl (fun K hK => ?_); go_simp; refine hK _ ?_; clear hK K)
    refine mix1 rfl (fun K hK => ?_)
    go_simp
    refine hK _ _ (cls (Below.refl _ _).drew) ?_
    clear hK K
    refine mix1 rfl (fun K hK => ?_)
    go_simp
    refine hK _ _ (cls (Below.refl _ _).drew) ?_
    clear hK K
    repeat (refine mix0 rfl (fun K hK => ?_); go_simp; refine hK _ ?_; clear hK K)
    refine mixEnd ?_
    clear q0 q1 q2 q3
    go_wp2
    go_ret
    exact ⟨ret_bool (by first | exact HT.out.symm | rfl | (rw [HT.out]; simp)), B2.out.2.1.drew⟩
  | true =>
    have hR := rightM_iff.1 hk
    have n4 : n = 4 := by rw [← Hlen.out]; exact hR.four
    subst n4
    have hzz := zN_of hR.ok
    clear hR
    rcases zp_cases l x with h | ⟨z, hz, h, _, h1, h2⟩
    · have HT : Hid (takenM l M x = false) := Lib.hid (by rw [takenM, h]; simp)
      have Hz : zv = -1 := by rw [← Hzv.out, h]
      clear h hzz
      rw [HT.out]
      subst Hz
      go_enter Try.func15, Try.ntmps15
      go_wp2_with fail
      rw [HW.out, Hp.out]
      refine (YRight_any l (A) 4 c M W hG.out hs).mono ?_
      rw [hk]
      rintro e w1 ⟨rfl, b1⟩
      have L1 : Hid (LayAt w1 p l ∧ Below w.heap.size w w1 ∧ IsG w1 1 encT (A) 4 M) := Lib.hid ⟨HL.out.1.below b1, bnext HL.out.2 b1, hG.out.below b1⟩
      clear b1 e0 e1 e2 e3
      obtain ⟨e0, e1, e2, e3⟩ := L1.out.1
      go_wp2_with fail
      refine (XZone_any l x hx _).mono ?_
      rw [Hzv.out]
      rintro e w2 ⟨rfl, b2⟩
      have B2 : Hid (Below w1.heap.size w1 w2 ∧ Below w.heap.size w w2 ∧ LayAt w2 p l ∧ IsG w2 1 encT (A) 4 M) := Lib.hid ⟨b2, bnext L1.out.2.1 b2, L1.out.1.below b2, L1.out.2.2.below b2⟩
      clear b2 e0 e1 e2 e3
      obtain ⟨e0, e1, e2, e3⟩ := B2.out.2.2.1
      have hpl := B2.out.2.2.1.lt
      have q0 : ∀ y : In (Abv w2), y.u.cell? ⟨p, 0, none⟩ = some (.int .i64 l.s) := fun y => (y.is.cell (p := ⟨p, 0, none⟩) hpl).trans e0
      have q1 : ∀ y : In (Abv w2), y.u.cell? ⟨p, 1, none⟩ = some (.int .i64 l.n) := fun y => (y.is.cell (p := ⟨p, 1, none⟩) hpl).trans e1
      have q2 : ∀ y : In (Abv w2), y.u.cell? ⟨p, 2, none⟩ = some (.int .i64 l.f) := fun y => (y.is.cell (p := ⟨p, 2, none⟩) hpl).trans e2
      have q3 : ∀ y : In (Abv w2), y.u.cell? ⟨p, 3, none⟩ = some (.int .i64 l.z) := fun y => (y.is.cell (p := ⟨p, 3, none⟩) hpl).trans e3
      go_wp2_with fail
      refine wp_region_mix (by kernel_rfl) (Cls (Abv w2)) ((0, 0) :: (1, 0) :: (2, 0) :: (3, 0) :: (4, 0) :: (5, 0) :: (6, 0) :: (7, 0) :: (8, 0) :: (9, 0) :: (10, 0) :: (11, 0) :: (12, 1) :: (13, 1) :: (14, 0) :: (15, 0) :: []) (by kernel_rfl) (cls (Below.refl _ _).drew) ?_
      repeat (refine mix0 rfl (fun K hK => ?_); go_simp; refine hK _ ?_; clear hK K)
      refine mix1 rfl (fun K hK => ?_)
      go_simp
      refine hK _ _ (cls (Below.refl _ _).drew) ?_
      clear hK K
      refine mix1 rfl (fun K hK => ?_)
      go_simp
      refine hK _ _ (cls (Below.refl _ _).drew) ?_
      clear hK K
      repeat (refine mix0 rfl (fun K hK => ?_); go_simp; refine hK _ ?_; clear hK K)
      refine mixEnd ?_
      clear q0 q1 q2 q3
      go_wp2
      go_ret
      exact ⟨ret_bool (by first | exact HT.out.symm | rfl | (rw [HT.out]; simp)), B2.out.2.1.drew⟩
    · obtain ⟨s, Hs⟩ : ∃ a, Hid (M[z]? = some a) := ⟨M[z]'(by have := Hlen.out; omega), Lib.hid (List.getElem?_eq_getElem _)⟩
      have HT : Hid (takenM l M x = Bm.bitI s pv) := Lib.hid (by
        rw [takenM, hk, Hpv.out, h]
        simp [Hs.out])
      have Hz : zv = (z : Int) := by rw [← Hzv.out, h]
      have hpv : pv ≤ 9223372036854775807 := by rw [← Hpv.out, h]; show x - (l.f + z * l.z) ≤ _; omega
      clear h h1 h2 hzz
      rw [HT.out]
      subst Hz
      have z0 : (0 : Int) ≤ (z : Int) := by omega
      have z1 : (z : Int) < 4 := by omega
      have hsl := hs s (List.mem_of_getElem? Hs.out)
      obtain ⟨g, off, rfl, _, _⟩ := hG.out.cells (by omega)
      go_enter Try.func15, Try.ntmps15
      go_wp2_with fail
      rw [HW.out, Hp.out]
      refine (YRight_any l (some ⟨g, off, none⟩) 4 c M W hG.out hs).mono ?_
      rw [hk]
      rintro e w1 ⟨rfl, b1⟩
      have L1 : Hid (LayAt w1 p l ∧ Below w.heap.size w w1 ∧ IsG w1 1 encT (some ⟨g, off, none⟩) 4 M) := Lib.hid ⟨HL.out.1.below b1, bnext HL.out.2 b1, hG.out.below b1⟩
      clear b1 e0 e1 e2 e3
      obtain ⟨e0, e1, e2, e3⟩ := L1.out.1
      go_wp2_with fail
      refine (XZone_any l x hx _).mono ?_
      rw [Hzv.out]
      rintro e w2 ⟨rfl, b2⟩
      have B2 : Hid (Below w1.heap.size w1 w2 ∧ Below w.heap.size w w2 ∧ LayAt w2 p l ∧ IsG w2 1 encT (some ⟨g, off, none⟩) 4 M) := Lib.hid ⟨b2, bnext L1.out.2.1 b2, L1.out.1.below b2, L1.out.2.2.below b2⟩
      clear b2 e0 e1 e2 e3
      obtain ⟨e0, e1, e2, e3⟩ := B2.out.2.2.1
      have hpl := B2.out.2.2.1.lt
      have q0 : ∀ y : In (Abv w2), y.u.cell? ⟨p, 0, none⟩ = some (.int .i64 l.s) := fun y => (y.is.cell (p := ⟨p, 0, none⟩) hpl).trans e0
      have q1 : ∀ y : In (Abv w2), y.u.cell? ⟨p, 1, none⟩ = some (.int .i64 l.n) := fun y => (y.is.cell (p := ⟨p, 1, none⟩) hpl).trans e1
      have q2 : ∀ y : In (Abv w2), y.u.cell? ⟨p, 2, none⟩ = some (.int .i64 l.f) := fun y => (y.is.cell (p := ⟨p, 2, none⟩) hpl).trans e2
      have q3 : ∀ y : In (Abv w2), y.u.cell? ⟨p, 3, none⟩ = some (.int .i64 l.z) := fun y => (y.is.cell (p := ⟨p, 3, none⟩) hpl).trans e3
      obtain ⟨g2, off2, eg, hgl, hc⟩ := B2.out.2.2.2.cells (by omega)
      cases eg
      have d0 := hc z s 0 _ Hs.out rfl
      rw [Nat.mul_one, Nat.add_zero] at d0
      have q4 : ∀ y : In (Abv w2), y.u.cell? ⟨g, off + z, none⟩ = some (.string (str s)) := fun y => (y.is.cell (p := ⟨g, off + z, none⟩) hgl).trans d0
      clear hc
      go_wp2_with fail
      refine wp_region_mix (by kernel_rfl) (Cls (Abv w2)) ((0, 0) :: (1, 0) :: (2, 0) :: (3, 0) :: (4, 0) :: (5, 0) :: (6, 0) :: (7, 0) :: (8, 0) :: (9, 0) :: (10, 0) :: (11, 0) :: (12, 1) :: (13, 1) :: (14, 0) :: (15, 0) :: []) (by kernel_rfl) (cls (Below.refl _ _).drew) ?_
      repeat (refine mix0 rfl (fun K hK => ?_); go_simp; refine hK _ ?_; clear hK K)
      refine mix1 rfl (fun K hK => ?_)
      go_simp
      refine (XPlace_any l x hx _).mono ?_
      rw [Hpv.out]
      rintro e w3 ⟨rfl, b3⟩
      have B3 : Hid (Below w2.heap.size w2 w3 ∧ Below w.heap.size w w3) := Lib.hid ⟨(Below.refl _ _).drew.trans (b3.mono (Nat.le_refl _)), bnext B2.out.2.1.drew b3⟩
      refine ⟨_, rfl, hK _ _ (cls B3.out.1) ?_⟩
      clear hK K b3
      refine mix1 rfl (fun K hK => ?_)
      go_simp
      refine (XHas_any s hsl pv hpv _).mono ?_
      rintro e w4 ⟨rfl, rfl⟩
      refine ⟨_, rfl, hK _ _ (cls B3.out.1) ?_⟩
      clear hK K
      repeat (refine mix0 rfl (fun K hK => ?_); go_simp; refine hK _ ?_; clear hK K)
      refine mixEnd ?_
      clear q0 q1 q2 q3 q4
      go_wp2
      go_ret
      exact ⟨ret_bool (by first | exact HT.out.symm | rfl | (rw [HT.out]; simp)), B3.out.2⟩
end Go.Proofs.Ytidclmhlmnhbkaa
