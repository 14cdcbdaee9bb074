/- Whether a sector is taken; the document's words of maps, at this translation. -/
import Derived.Test.YtoakjcmhmlngfaaLb17
namespace Go.Proofs.Ytoakjcmhmlngfaa
open Go.RowKit

set_option maxRecDepth 100000 in
set_option maxHeartbeats 4000000 in
theorem STaken_any (l : Lay) (A : Option Addr) (n c : Nat) (M : List (List UInt8)) (x : Int) (hx : (Lit.int .i64 x).wf = true) (w : World) (h : IsG w 1 encT A n M) (hs : ∀ s ∈ M, s.length ≤ 100000) :
    Calls Try.prog 9 #[l.v, .slice A n c, .int .i64 x] w fun e w' => e = .returned (.bool (takenM l M x)) ∧ Below w.heap.size w w' := by
  obtain ⟨W, p, HW, Hp, HL⟩ := layBoxed l w
  obtain ⟨e0, e1, e2, e3⟩ := HL.out.1
  have hG := Lib.hid (h.below HL.out.2)
  have Hlen := Lib.hid h.length
  have hsm := h.small
  clear h
  obtain ⟨zv, Hzv⟩ : ∃ t, Hid ((layZP l x).1 = t) := ⟨_, Lib.hid rfl⟩
  obtain ⟨pv, Hpv⟩ : ∃ t, Hid ((layZP l x).2 = t) := ⟨_, Lib.hid rfl⟩
  go_enter Try.func9, Try.ntmps9
  go_wp2_with fail
  rw [HW.out]
  refine (Zone_any l x hx W).mono ?_
  rw [Hzv.out]
  rintro e w1 ⟨rfl, b1⟩
  have L1 : Hid (LayAt w1 p l ∧ Below w.heap.size w w1 ∧ IsG w1 1 encT A n M) := Lib.hid ⟨HL.out.1.below b1, bnext HL.out.2 b1, hG.out.below b1⟩
  clear b1 e0 e1 e2 e3
  rw [Hp.out]
  obtain ⟨e0, e1, e2, e3⟩ := L1.out.1
  have hpl := L1.out.1.lt
  have q0 : ∀ y : In (Abv w1), y.u.cell? ⟨p, 0, none⟩ = some (.int .i64 l.s) := fun y => (y.is.cell (p := ⟨p, 0, none⟩) hpl).trans e0
  have q1 : ∀ y : In (Abv w1), y.u.cell? ⟨p, 1, none⟩ = some (.int .i64 l.n) := fun y => (y.is.cell (p := ⟨p, 1, none⟩) hpl).trans e1
  have q2 : ∀ y : In (Abv w1), y.u.cell? ⟨p, 2, none⟩ = some (.int .i64 l.f) := fun y => (y.is.cell (p := ⟨p, 2, none⟩) hpl).trans e2
  have q3 : ∀ y : In (Abv w1), y.u.cell? ⟨p, 3, none⟩ = some (.int .i64 l.z) := fun y => (y.is.cell (p := ⟨p, 3, none⟩) hpl).trans e3
  have L1d : Hid (Below w.heap.size w w1.drew ∧ IsG w1.drew 1 encT A n M) := Lib.hid ⟨L1.out.2.1.drew, L1.out.2.2.below (Below.refl _ _).drew⟩
  cases hk : rightM l M with
  | false =>
    have HT : Hid (takenM l M x = false) := Lib.hid (takenM_no hk)
    go_wp2_with fail
    refine wp_region_mix (by kernel_rfl) (Cls (Abv w1)) ((0, 0) :: (1, 0) :: (2, 1) :: (3, 0) :: (4, 0) :: (5, 0) :: (6, 0) :: (7, 0) :: (8, 0) :: (9, 0) :: (10, 0) :: (11, 0) :: (12, 0) :: (13, 0) :: (14, 1) :: (15, 1) :: (16, 0) :: (17, 0) :: []) (by kernel_rfl) (cls (Below.refl _ _).drew) ?_
    repeat (refine mix0 rfl (fun K hK => ?_); go_simp; refine hK _ ?_; clear hK K)
    refine mix1 rfl (fun K hK => ?_)
    go_simp
    refine (SRight_any l A n c M w1.drew L1d.out.2 hs).mono ?_
    rw [hk]
    rintro e w2 ⟨rfl, b2⟩
    have B2 : Hid (Below w1.heap.size w1 w2 ∧ Below w.heap.size w w2) := Lib.hid ⟨(Below.refl _ _).drew.trans (b2.mono (Nat.le_refl _)), bnext L1d.out.1 b2⟩
    refine ⟨_, rfl, hK _ _ (cls B2.out.1) ?_⟩
    clear hK K b2
    repeat (refine mix0 rfl (fun K hK => ?_); go_simp; refine hK _ ?_; clear hK K)
    refine mix1 rfl (fun K hK => ?_)
    go_simp
    refine hK _ _ (cls B2.out.1) ?_
    clear hK K
    refine mix1 rfl (fun K hK => ?_)
    go_simp
    refine hK _ _ (cls B2.out.1) ?_
    clear hK K
    repeat (refine mix0 rfl (fun K hK => ?_); go_simp; refine hK _ ?_; clear hK K)
    refine mixEnd ?_
    clear q0 q1 q2 q3
    go_wp2
    go_ret
    exact ⟨ret_bool (by first | exact HT.out.symm | (rw [HT.out]; simp)), B2.out.2⟩
  | true =>
    have hR := rightM_iff.1 hk
    have n4 : n = 4 := by rw [← Hlen.out]; exact hR.four
    subst n4
    clear hR
    rcases zp_cases l x with h | ⟨z, hz, h, _, _, _⟩
    · have HT : Hid (takenM l M x = false) := Lib.hid (by rw [takenM, h]; simp)
      have Hz : zv = -1 := by rw [← Hzv.out, h]
      clear h
      subst Hz
      go_wp2_with fail
      refine wp_region_mix (by kernel_rfl) (Cls (Abv w1)) ((0, 0) :: (1, 0) :: (2, 1) :: (3, 0) :: (4, 0) :: (5, 0) :: (6, 0) :: (7, 0) :: (8, 0) :: (9, 0) :: (10, 0) :: (11, 0) :: (12, 0) :: (13, 0) :: (14, 1) :: (15, 1) :: (16, 0) :: (17, 0) :: []) (by kernel_rfl) (cls (Below.refl _ _).drew) ?_
      repeat (refine mix0 rfl (fun K hK => ?_); go_simp; refine hK _ ?_; clear hK K)
      refine mix1 rfl (fun K hK => ?_)
      go_simp
      refine (SRight_any l A 4 c M w1.drew L1d.out.2 hs).mono ?_
      rw [hk]
      rintro e w2 ⟨rfl, b2⟩
      have B2 : Hid (Below w1.heap.size w1 w2 ∧ Below w.heap.size w w2) := Lib.hid ⟨(Below.refl _ _).drew.trans (b2.mono (Nat.le_refl _)), bnext L1d.out.1 b2⟩
      refine ⟨_, rfl, hK _ _ (cls B2.out.1) ?_⟩
      clear hK K b2
      repeat (refine mix0 rfl (fun K hK => ?_); go_simp; refine hK _ ?_; clear hK K)
      refine mix1 rfl (fun K hK => ?_)
      go_simp
      refine hK _ _ (cls B2.out.1) ?_
      clear hK K
      refine mix1 rfl (fun K hK => ?_)
      go_simp
      refine hK _ _ (cls B2.out.1) ?_
      clear hK K
      repeat (refine mix0 rfl (fun K hK => ?_); go_simp; refine hK _ ?_; clear hK K)
      refine mixEnd ?_
      clear q0 q1 q2 q3
      go_wp2
      go_ret
      exact ⟨ret_bool (by first | exact HT.out.symm | (rw [HT.out]; simp)), B2.out.2⟩
    · obtain ⟨s, Hs⟩ : ∃ a, Hid (M[z]? = some a) := ⟨M[z]'(by have := Hlen.out; omega), Lib.hid (List.getElem?_eq_getElem _)⟩
      have HT : Hid (takenM l M x = Bm.bitI s pv) := Lib.hid (by
        rw [takenM, hk, Hpv.out, h]
        simp [Hs.out])
      have Hz : zv = (z : Int) := by rw [← Hzv.out, h]
      clear h
      subst Hz
      have z0 : (0 : Int) ≤ (z : Int) := by omega
      have z1 : (z : Int) < 4 := by omega
      have hsl := hs s (List.mem_of_getElem? Hs.out)
      obtain ⟨g, off, rfl, hgl, hc⟩ := L1.out.2.2.cells (by omega)
      have d0 := hc z s 0 _ Hs.out rfl
      rw [Nat.mul_one, Nat.add_zero] at d0
      have q4 : ∀ y : In (Abv w1), y.u.cell? ⟨g, off + z, none⟩ = some (.string (str s)) := fun y => (y.is.cell (p := ⟨g, off + z, none⟩) hgl).trans d0
      clear hc
      go_wp2_with fail
      refine wp_region_mix (by kernel_rfl) (Cls (Abv w1)) ((0, 0) :: (1, 0) :: (2, 1) :: (3, 0) :: (4, 0) :: (5, 0) :: (6, 0) :: (7, 0) :: (8, 0) :: (9, 0) :: (10, 0) :: (11, 0) :: (12, 0) :: (13, 0) :: (14, 1) :: (15, 1) :: (16, 0) :: (17, 0) :: []) (by kernel_rfl) (cls (Below.refl _ _).drew) ?_
      repeat (refine mix0 rfl (fun K hK => ?_); go_simp; refine hK _ ?_; clear hK K)
      refine mix1 rfl (fun K hK => ?_)
      go_simp
      refine (SRight_any l (some ⟨g, off, none⟩) 4 c M w1.drew L1d.out.2 hs).mono ?_
      rw [hk]
      rintro e w2 ⟨rfl, b2⟩
      have B2 : Hid (Below w1.heap.size w1 w2 ∧ Below w.heap.size w w2) := Lib.hid ⟨(Below.refl _ _).drew.trans (b2.mono (Nat.le_refl _)), bnext L1d.out.1 b2⟩
      refine ⟨_, rfl, hK _ _ (cls B2.out.1) ?_⟩
      clear hK K b2
      repeat (refine mix0 rfl (fun K hK => ?_); go_simp; refine hK _ ?_; clear hK K)
      refine mix1 rfl (fun K hK => ?_)
      go_simp
      refine (Place_any l x hx _).mono ?_
      rw [Hpv.out]
      rintro e w3 ⟨rfl, b3⟩
      have B3 : Hid (Below w1.heap.size w1 w3 ∧ Below w.heap.size w w3) := Lib.hid ⟨bnext B2.out.1 b3, bnext B2.out.2 b3⟩
      refine ⟨_, rfl, hK _ _ (cls B3.out.1) ?_⟩
      clear hK K b3
      refine mix1 rfl (fun K hK => ?_)
      go_simp
      refine (Has_any s hsl pv _).mono ?_
      rintro e w4 ⟨rfl, rfl⟩
      refine ⟨_, rfl, hK _ _ (cls B3.out.1) ?_⟩
      clear hK K
      repeat (refine mix0 rfl (fun K hK => ?_); go_simp; refine hK _ ?_; clear hK K)
      refine mixEnd ?_
      clear q0 q1 q2 q3 q4
      go_wp2
      go_ret
      exact ⟨ret_bool (by first | exact HT.out.symm | (rw [HT.out]; simp)), B3.out.2⟩
end Go.Proofs.Ytoakjcmhmlngfaa
