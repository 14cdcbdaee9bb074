/- Whether a view may be: the closures that ask of members and of the dead. -/
import Derived.Test.YtnbhjehaecifcaaRis
namespace Go.Proofs.Ytnbhjehaecifcaa
open Go.RowKit

def incAt (V : Vw) (node : Int) : Int := V.incs.getD node.toNat 0
def mbad (V : Vw) (m : Mb) : Bool := !thereB V m.1 || (decide (m.2.1 < 1) || m.2.1 != incAt V m.1)
def dbad (V : Vw) (d : Mb) : Bool := !thereB V d.1 || (decide (d.2.1 < 1) || (decide (incAt V d.1 < d.2.1) || (d.2.2 || V.mem.any (pIs d.1 d.2.1))))
set_option maxHeartbeats 2000000 in
theorem mr_run (q : Nat) (x : Vx) (V : Vw) (m : Mb) (w : World) (hb : BoxV w q x) (h : IsV w x V) (hl : (V.incs.length : Int) = V.nodes) :
    Calls Try.prog 53 #[mbV m, .pointer (some ⟨q, 0, none⟩)] w fun e w' => e = .returned (.bool (mbad V m)) ∧ Below w.heap.size w w' := by
  have hn := h.incs.small
  have Hq := Lib.hid hb
  have Hh := Lib.hid h
  have hway : (thereB V m.1 = false) ∨ (thereB V m.1 = true ∧ m.2.1 < 1) ∨ (thereB V m.1 = true ∧ ¬ m.2.1 < 1 ∧ ∃ k : Nat, m.1 = (k : Int) ∧ k < x.ir) := by
    by_cases ht : thereB V m.1 = true
    · by_cases h1 : m.2.1 < 1
      · exact .inr (.inl ⟨ht, h1⟩)
      · simp only [thereB, Bool.and_eq_true, decide_eq_true_eq] at ht
        refine .inr (.inr ⟨by simp [thereB, ht], h1, m.1.toNat, by omega, by have := h.incs.length; omega⟩)
    · exact .inl (by simpa using ht)
  clear hb h hl
  go_enter Try.func53, Try.ntmps53
  go_wp2
  obtain ⟨w1, Hw1⟩ : ∃ w1, Hid (w.alloc (.cells #[.int .i64 m.1, .int .i64 m.2.1, .bool m.2.2] 43) = w1) := ⟨_, Lib.hid rfl⟩
  obtain ⟨p, Hp⟩ : ∃ p, Hid (w.heap.size = p) := ⟨_, Lib.hid rfl⟩
  have HM : Hid (BoxM w1 p m) := Lib.hid (by rw [← Hw1.out, ← Hp.out]; exact BoxM.new w m)
  have Hb1 : Hid (Below w.heap.size w w1) := Lib.hid (by rw [← Hw1.out]; exact (Below.refl _ _).alloc (Nat.le_refl _) _)
  have HQ1 := Lib.hid (Hq.out.below Hb1.out)
  have HV1 := Lib.hid (Hh.out.below Hb1.out)
  rw [Hw1.out, Hp.out]
  have c0 : ∀ y : In (Abv w1), y.u.cell? ⟨p, 0, none⟩ = some (.int .i64 m.1) := fun y => (HM.out.below y.is).cells.1
  have c1 : ∀ y : In (Abv w1), y.u.cell? ⟨p, 1, none⟩ = some (.int .i64 m.2.1) := fun y => (HM.out.below y.is).cells.2.1
  have v0 : ∀ y : In (Abv w1), y.u.cell? ⟨q, 0, none⟩ = some (.int .i64 x.nodes) := fun y => (HQ1.out.below y.is).cells.1
  have v1 : ∀ y : In (Abv w1), y.u.cell? ⟨q, 1, none⟩ = some (.int .i64 x.epoch) := fun y => (HQ1.out.below y.is).cells.2.1
  have v2 : ∀ y : In (Abv w1), y.u.cell? ⟨q, 2, none⟩ = some (.slice x.mA x.mn x.mc) := fun y => (HQ1.out.below y.is).cells.2.2.1
  have v3 : ∀ y : In (Abv w1), y.u.cell? ⟨q, 3, none⟩ = some (.slice x.dA x.dn x.dc) := fun y => (HQ1.out.below y.is).cells.2.2.2.1
  have v4 : ∀ y : In (Abv w1), y.u.cell? ⟨q, 4, none⟩ = some (.slice x.iA x.ir x.ic) := fun y => (HQ1.out.below y.is).cells.2.2.2.2
  refine wp_region_mix (by kernel_rfl) (Cls (Abv w1)) [(0, 0), (1, 0), (2, 0), (3, 1), (4, 0), (5, 0), (6, 0), (7, 0), (8, 0), (9, 0), (10, 0), (11, 0), (12, 0), (13, 0), (14, 0), (15, 0), (16, 0), (17, 0), (18, 0), (19, 0), (20, 0), (21, 0)] (by kernel_rfl) (cls (Below.refl _ _).drew) ?_
  repeat (refine mix0 rfl (fun K hK => ?_); go_simp; refine hK _ ?_; clear hK K)
  refine mix1 rfl (fun K hK => ?_)
  go_simp
  refine (there_any _ x V HV1.out.nodes m.1).mono ?_
  rintro e w2 ⟨rfl, hb2⟩
  have Hb2 : Hid (Below w1.heap.size w1 w2) := Lib.hid ((Below.refl _ _).drew.trans hb2)
  clear hb2
  refine ⟨_, rfl, hK _ _ (cls Hb2.out) ?_⟩
  clear hK K
  have HB2 : Hid (Below w.heap.size w w2) := Lib.hid (bnext Hb1.out Hb2.out)
  rcases hway with ht | ⟨ht, h1⟩ | ⟨ht, h1, k, hk, hkl⟩
  · have Hr : Hid (mbad V m = true) := Lib.hid (by simp [mbad, ht])
    repeat (refine mix0 rfl (fun K hK => ?_); go_simp; refine hK _ ?_; clear hK K)
    refine mixEnd ?_
    clear c0 c1 v0 v1 v2 v3 v4
    go_wp2
    go_ret
    exact ⟨ret_bool Hr.out.symm, HB2.out⟩
  · have Hr : Hid (mbad V m = true) := Lib.hid (by simp [mbad, ht, h1])
    repeat (refine mix0 rfl (fun K hK => ?_); go_simp; refine hK _ ?_; clear hK K)
    refine mixEnd ?_
    clear c0 c1 v0 v1 v2 v3 v4
    go_wp2
    go_ret
    exact ⟨ret_bool Hr.out.symm, HB2.out⟩
  · obtain ⟨g, off, eA, hg, hc⟩ := HV1.out.incs.cells (by omega)
    obtain ⟨z, hz⟩ : ∃ z, V.incs[k]? = some z := ⟨_, List.getElem?_eq_getElem (by rw [HV1.out.incs.length]; exact hkl)⟩
    have u0 : ∀ y : In (Abv w1), y.u.cell? ⟨g, off + k, none⟩ = some (.int .i64 z) := fun y => (y.is.cell (p := ⟨g, off + k, none⟩) hg).trans (hc k z hz)
    have h1' : decide (m.2.1 < 1) = false := by simpa using h1
    have Hr : Hid (mbad V m = (m.2.1 != z)) := Lib.hid (by unfold mbad; rw [ht, h1', incAt, hk]; simp [List.getD, hz])
    rw [eA] at v4
    rw [hk] at c0
    have i1 : (k : Int) < (x.ir : Int) := by omega
    clear hc hz eA hk h1
    repeat (refine mix0 rfl (fun K hK => ?_); go_simp; refine hK _ ?_; clear hK K)
    refine mixEnd ?_
    clear c0 c1 v0 v1 v2 v3 v4 u0
    go_wp2
    go_ret
    exact ⟨ret_bool Hr.out.symm, HB2.out⟩
set_option maxHeartbeats 4000000 in
theorem dr_run (q : Nat) (x : Vx) (V : Vw) (m : Mb) (w : World) (hb : BoxV w q x) (h : IsV w x V) (hl : (V.incs.length : Int) = V.nodes) :
    Calls Try.prog 54 #[mbV m, .pointer (some ⟨q, 0, none⟩)] w fun e w' => e = .returned (.bool (dbad V m)) ∧ Below w.heap.size w w' := by
  have hn := h.incs.small
  have Hq := Lib.hid hb
  have Hh := Lib.hid h
  have hway : (thereB V m.1 = false) ∨ (thereB V m.1 = true ∧ m.2.1 < 1) ∨ (thereB V m.1 = true ∧ ¬ m.2.1 < 1 ∧ ∃ k : Nat, m.1 = (k : Int) ∧ k < x.ir) := by
    by_cases ht : thereB V m.1 = true
    · by_cases h1 : m.2.1 < 1
      · exact .inr (.inl ⟨ht, h1⟩)
      · simp only [thereB, Bool.and_eq_true, decide_eq_true_eq] at ht
        refine .inr (.inr ⟨by simp [thereB, ht], h1, m.1.toNat, by omega, by have := h.incs.length; omega⟩)
    · exact .inl (by simpa using ht)
  clear hb h hl
  go_enter Try.func54, Try.ntmps54
  go_wp2
  obtain ⟨w1, Hw1⟩ : ∃ w1, Hid (w.alloc (.cells #[.int .i64 m.1, .int .i64 m.2.1, .bool m.2.2] 43) = w1) := ⟨_, Lib.hid rfl⟩
  obtain ⟨p, Hp⟩ : ∃ p, Hid (w.heap.size = p) := ⟨_, Lib.hid rfl⟩
  have HM : Hid (BoxM w1 p m) := Lib.hid (by rw [← Hw1.out, ← Hp.out]; exact BoxM.new w m)
  have Hb1 : Hid (Below w.heap.size w w1) := Lib.hid (by rw [← Hw1.out]; exact (Below.refl _ _).alloc (Nat.le_refl _) _)
  have HQ1 := Lib.hid (Hq.out.below Hb1.out)
  have HV1 := Lib.hid (Hh.out.below Hb1.out)
  rw [Hw1.out, Hp.out]
  have c0 : ∀ y : In (Abv w1), y.u.cell? ⟨p, 0, none⟩ = some (.int .i64 m.1) := fun y => (HM.out.below y.is).cells.1
  have c1 : ∀ y : In (Abv w1), y.u.cell? ⟨p, 1, none⟩ = some (.int .i64 m.2.1) := fun y => (HM.out.below y.is).cells.2.1
  have c2 : ∀ y : In (Abv w1), y.u.cell? ⟨p, 2, none⟩ = some (.bool m.2.2) := fun y => (HM.out.below y.is).cells.2.2
  have v0 : ∀ y : In (Abv w1), y.u.cell? ⟨q, 0, none⟩ = some (.int .i64 x.nodes) := fun y => (HQ1.out.below y.is).cells.1
  have v1 : ∀ y : In (Abv w1), y.u.cell? ⟨q, 1, none⟩ = some (.int .i64 x.epoch) := fun y => (HQ1.out.below y.is).cells.2.1
  have v2 : ∀ y : In (Abv w1), y.u.cell? ⟨q, 2, none⟩ = some (.slice x.mA x.mn x.mc) := fun y => (HQ1.out.below y.is).cells.2.2.1
  have v3 : ∀ y : In (Abv w1), y.u.cell? ⟨q, 3, none⟩ = some (.slice x.dA x.dn x.dc) := fun y => (HQ1.out.below y.is).cells.2.2.2.1
  have v4 : ∀ y : In (Abv w1), y.u.cell? ⟨q, 4, none⟩ = some (.slice x.iA x.ir x.ic) := fun y => (HQ1.out.below y.is).cells.2.2.2.2
  refine wp_region_mix (by kernel_rfl) (Cls (Abv w1)) [(0, 0), (1, 0), (2, 0), (3, 1), (4, 0), (5, 0), (6, 0), (7, 0), (8, 0), (9, 0), (10, 0), (11, 0), (12, 0), (13, 0), (14, 0), (15, 0), (16, 0), (17, 0), (18, 0), (19, 0), (20, 0), (21, 0), (22, 0), (23, 0), (24, 0), (25, 0), (26, 0), (27, 0), (28, 0), (29, 0), (30, 0), (31, 0), (32, 1), (33, 1), (34, 0), (35, 0)] (by kernel_rfl) (cls (Below.refl _ _).drew) ?_
  repeat (refine mix0 rfl (fun K hK => ?_); go_simp; refine hK _ ?_; clear hK K)
  refine mix1 rfl (fun K hK => ?_)
  go_simp
  refine (there_any _ x V HV1.out.nodes m.1).mono ?_
  rintro e w2 ⟨rfl, hb2⟩
  have Hb2 : Hid (Below w1.heap.size w1 w2) := Lib.hid ((Below.refl _ _).drew.trans hb2)
  clear hb2
  refine ⟨_, rfl, hK _ _ (cls Hb2.out) ?_⟩
  clear hK K
  have HB2 : Hid (Below w.heap.size w w2) := Lib.hid (bnext Hb1.out Hb2.out)
  rcases hway with ht | ⟨ht, h1⟩ | ⟨ht, h1, k, hk, hkl⟩
  · have Hr : Hid (dbad V m = true) := Lib.hid (by simp [dbad, ht])
    repeat (refine mix0 rfl (fun K hK => ?_); go_simp; refine hK _ ?_; clear hK K)
    refine mix1 rfl (fun K hK => ?_); go_simp; refine hK _ _ (cls Hb2.out) ?_; clear hK K
    refine mix1 rfl (fun K hK => ?_); go_simp; refine hK _ _ (cls Hb2.out) ?_; clear hK K
    repeat (refine mix0 rfl (fun K hK => ?_); go_simp; refine hK _ ?_; clear hK K)
    refine mixEnd ?_
    clear c0 c1 c2 v0 v1 v2 v3 v4
    go_wp2
    go_ret
    exact ⟨ret_bool Hr.out.symm, HB2.out⟩
  · have Hr : Hid (dbad V m = true) := Lib.hid (by simp [dbad, ht, h1])
    repeat (refine mix0 rfl (fun K hK => ?_); go_simp; refine hK _ ?_; clear hK K)
    refine mix1 rfl (fun K hK => ?_); go_simp; refine hK _ _ (cls Hb2.out) ?_; clear hK K
    refine mix1 rfl (fun K hK => ?_); go_simp; refine hK _ _ (cls Hb2.out) ?_; clear hK K
    repeat (refine mix0 rfl (fun K hK => ?_); go_simp; refine hK _ ?_; clear hK K)
    refine mixEnd ?_
    clear c0 c1 c2 v0 v1 v2 v3 v4
    go_wp2
    go_ret
    exact ⟨ret_bool Hr.out.symm, HB2.out⟩
  · obtain ⟨g, off, eA, hg, hc⟩ := HV1.out.incs.cells (by omega)
    obtain ⟨z, hz⟩ : ∃ z, V.incs[k]? = some z := ⟨_, List.getElem?_eq_getElem (by rw [HV1.out.incs.length]; exact hkl)⟩
    have u0 : ∀ y : In (Abv w1), y.u.cell? ⟨g, off + k, none⟩ = some (.int .i64 z) := fun y => (y.is.cell (p := ⟨g, off + k, none⟩) hg).trans (hc k z hz)
    have h1' : decide (m.2.1 < 1) = false := by simpa using h1
    have Hr0 : Hid (dbad V m = (decide (z < m.2.1) || (m.2.2 || V.mem.any (pIs m.1 m.2.1)))) := Lib.hid (by unfold dbad; rw [ht, h1', incAt, hk]; simp [List.getD, hz])
    rw [eA] at v4
    have i1 : (k : Int) < (x.ir : Int) := by omega
    have Hk := Lib.hid hk
    rw [hk] at c0
    clear hc hz eA hk h1
    by_cases h2 : z < m.2.1
    · have Hr : Hid (dbad V m = true) := Lib.hid (by rw [Hr0.out]; simp [h2])
      repeat (refine mix0 rfl (fun K hK => ?_); go_simp; refine hK _ ?_; clear hK K)
      refine mix1 rfl (fun K hK => ?_); go_simp; refine hK _ _ (cls Hb2.out) ?_; clear hK K
      refine mix1 rfl (fun K hK => ?_); go_simp; refine hK _ _ (cls Hb2.out) ?_; clear hK K
      repeat (refine mix0 rfl (fun K hK => ?_); go_simp; refine hK _ ?_; clear hK K)
      refine mixEnd ?_
      clear c0 c1 c2 v0 v1 v2 v3 v4 u0
      go_wp2
      go_ret
      exact ⟨ret_bool Hr.out.symm, HB2.out⟩
    · have h2' : decide (z < m.2.1) = false := by simpa using h2
      cases h3 : m.2.2 with
      | true =>
        have Hr : Hid (dbad V m = true) := Lib.hid (by rw [Hr0.out]; simp [h3])
        rw [h3] at c2
        clear h2 h3
        repeat (refine mix0 rfl (fun K hK => ?_); go_simp; refine hK _ ?_; clear hK K)
        refine mix1 rfl (fun K hK => ?_); go_simp; refine hK _ _ (cls Hb2.out) ?_; clear hK K
        refine mix1 rfl (fun K hK => ?_); go_simp; refine hK _ _ (cls Hb2.out) ?_; clear hK K
        repeat (refine mix0 rfl (fun K hK => ?_); go_simp; refine hK _ ?_; clear hK K)
        refine mixEnd ?_
        clear c0 c1 c2 v0 v1 v2 v3 v4 u0
        go_wp2
        go_ret
        exact ⟨ret_bool Hr.out.symm, HB2.out⟩
      | false =>
        have Hr : Hid (dbad V m = V.mem.any (pIs m.1 m.2.1)) := Lib.hid (by rw [Hr0.out]; simp [h2', h3])
        rw [h3] at c2
        clear h2 h3
        repeat (refine mix0 rfl (fun K hK => ?_); go_simp; refine hK _ ?_; clear hK K)
        refine mix1 rfl (fun K hK => ?_)
        go_simp
        refine (is_any _ _ _).mono ?_
        rintro e w3 ⟨q1, q2, rfl, hb3, hcl⟩
        have Hb3 : Hid (Below w1.heap.size w1 w3) := Lib.hid (bnext Hb2.out hb3)
        have Hcl := Lib.hid hcl
        clear hb3 hcl
        refine ⟨_, rfl, hK _ _ (cls Hb3.out) ?_⟩
        clear hK K
        refine mix1 rfl (fun K hK => ?_)
        go_simp
        refine (some_is _ _ _ _ V.mem (HV1.out.mem.below Hb3.out) _ _ _ Hcl.out).mono ?_
        rintro e w4 ⟨rfl, hb4⟩
        have Hb4 : Hid (Below w1.heap.size w1 w4) := Lib.hid (bnext Hb3.out hb4)
        clear hb4
        refine ⟨_, rfl, hK _ _ (cls Hb4.out) ?_⟩
        clear hK K
        repeat (refine mix0 rfl (fun K hK => ?_); go_simp; refine hK _ ?_; clear hK K)
        refine mixEnd ?_
        clear c0 c1 c2 v0 v1 v2 v3 v4 u0
        go_wp2
        go_ret
        exact ⟨ret_bool (by rw [Hr.out, Hk.out]), bnext Hb1.out Hb4.out⟩
def countsB (V : Vw) : Bool := decide (1 ≤ V.nodes) && (decide (V.nodes ≤ 8) && (!wrongB V.epoch && (decide ((V.incs.length : Int) = V.nodes) && !V.incs.any wrongB)))
theorem counts_any (w : World) (x : Vx) (V : Vw) (h : IsV w x V) :
    Calls Try.prog 23 #[vV x] w fun e w' => e = .returned (.bool (countsB V)) ∧ Below w.heap.size w w' := by
  have Hh := Lib.hid h
  have hn := h.incs.small
  have Hr : Hid (countsB V = (decide (1 ≤ x.nodes) && (decide (x.nodes ≤ 8) && (!wrongB x.epoch && (decide ((x.ir : Int) = x.nodes) && !V.incs.any wrongB))))) := Lib.hid (by rw [h.nodes, h.epoch, ← h.incs.length]; rfl)
  clear h
  by_cases h1 : 1 ≤ x.nodes
  case neg =>
    have h1' : decide (1 ≤ x.nodes) = false := by simpa using h1
    have Hr2 : Hid (countsB V = false) := Lib.hid (by rw [Hr.out, h1']; rfl)
    go_enter Try.func23, Try.ntmps23
    go_wp2
    go_ret
    exact ⟨ret_bool Hr2.out.symm, (Below.refl _ _).alloc (Nat.le_refl _) _⟩
  by_cases h2 : x.nodes ≤ 8
  case neg =>
    have h2' : decide (x.nodes ≤ 8) = false := by simpa using h2
    have Hr2 : Hid (countsB V = false) := Lib.hid (by rw [Hr.out, h2']; simp)
    go_enter Try.func23, Try.ntmps23
    go_wp2
    go_ret
    exact ⟨ret_bool Hr2.out.symm, (Below.refl _ _).alloc (Nat.le_refl _) _⟩
  cases h3 : wrongB x.epoch with
  | true =>
    have Hr2 : Hid (countsB V = false) := Lib.hid (by rw [Hr.out, h3]; simp)
    have H3 := Lib.hid h3
    clear h3
    go_enter Try.func23, Try.ntmps23
    go_wp2_with fail
    refine (wrong_any _ _).mono ?_
    rw [H3.out]
    rintro e w2 ⟨rfl, rfl⟩
    go_wp2
    go_ret
    exact ⟨ret_bool Hr2.out.symm, (Below.refl _ _).alloc (Nat.le_refl _) _⟩
  | false =>
    have H3 := Lib.hid h3
    have Hr3 : Hid (countsB V = (decide ((x.ir : Int) = x.nodes) && !V.incs.any wrongB)) := Lib.hid (by rw [Hr.out, h3]; simp [h1, h2])
    clear h3
    by_cases h4 : (x.ir : Int) = x.nodes
    case neg =>
      have h4' : ((x.ir : Int) == x.nodes) = false := beq_no h4
      have Hr2 : Hid (countsB V = false) := Lib.hid (by rw [Hr3.out]; simp [h4])
      clear h4
      go_enter Try.func23, Try.ntmps23
      go_wp2_with fail
      refine (wrong_any _ _).mono ?_
      rw [H3.out]
      rintro e w2 ⟨rfl, rfl⟩
      go_wp2
      go_ret
      exact ⟨ret_bool Hr2.out.symm, (Below.refl _ _).alloc (Nat.le_refl _) _⟩
    case pos =>
      have h4' : ((x.ir : Int) == x.nodes) = true := beq_yes h4
      have Hr2 : Hid (countsB V = !V.incs.any wrongB) := Lib.hid (by rw [Hr3.out]; simp [h4])
      clear h4
      go_enter Try.func23, Try.ntmps23
      go_wp2_with fail
      refine (wrong_any _ _).mono ?_
      rw [H3.out]
      rintro e w2 ⟨rfl, rfl⟩
      go_wp2_with fail
      refine (someI_any _ _ _ _ V.incs (Hh.out.incs.below ((Below.refl _ _).alloc (Nat.le_refl _) _))).mono ?_
      rintro e w3 ⟨rfl, rfl⟩
      go_wp2
      go_ret
      exact ⟨ret_bool Hr2.out.symm, (Below.refl _ _).alloc (Nat.le_refl _) _⟩
def memB (V : Vw) : Bool := risB V.mem && !V.mem.any (mbad V)
theorem members_any (w : World) (x : Vx) (V : Vw) (h : IsV w x V) (hl : (V.incs.length : Int) = V.nodes) :
    Calls Try.prog 24 #[vV x] w fun e w' => e = .returned (.bool (memB V)) ∧ Below w.heap.size w w' := by
  have Hh := Lib.hid h
  have Hl := Lib.hid hl
  clear h hl
  go_enter Try.func24, Try.ntmps24
  go_wp2_with fail
  have Hb1 : Hid (Below w.heap.size w (w.alloc (.cells (vC x) 25))) := Lib.hid ((Below.refl _ _).alloc (Nat.le_refl _) _)
  have HB := Lib.hid (BoxV.new w x)
  refine (rising_any _ _ _ _ V.mem (Hh.out.mem.below Hb1.out)).mono ?_
  rintro e w2 ⟨rfl, hb2⟩
  have Hb2 : Hid (Below w.heap.size w w2) := Lib.hid (bnext Hb1.out hb2)
  have HB2 := Lib.hid (HB.out.below hb2)
  have v2 := HB2.out.cells.2.2.1
  clear hb2
  cases hr : risB V.mem with
  | false =>
    have Hr : Hid (memB V = false) := Lib.hid (by simp [memB, hr])
    go_wp2
    go_ret
    exact ⟨ret_bool Hr.out.symm, Hb2.out⟩
  | true =>
    have Hr : Hid (memB V = !V.mem.any (mbad V)) := Lib.hid (by simp [memB, hr])
    go_wp2_with fail
    refine (some_mr _ _ _ _ V.mem (Hh.out.mem.below Hb2.out) _ (mbad V) ⟨fun u hu m => mr_run _ x V m u (HB2.out.below hu) (Hh.out.below (bnext Hb2.out hu)) Hl.out⟩).mono ?_
    rintro e w3 ⟨rfl, hb3⟩
    have Hb3 : Hid (Below w.heap.size w w3) := Lib.hid (bnext Hb2.out hb3)
    clear hb3
    go_wp2
    go_ret
    exact ⟨ret_bool Hr.out.symm, Hb3.out⟩
def deadB (V : Vw) : Bool := decide (V.dead.length ≤ 20) && (risB V.dead && !V.dead.any (dbad V))
theorem dead_any (w : World) (x : Vx) (V : Vw) (h : IsV w x V) (hl : (V.incs.length : Int) = V.nodes) :
    Calls Try.prog 25 #[vV x] w fun e w' => e = .returned (.bool (deadB V)) ∧ Below w.heap.size w w' := by
  have Hh := Lib.hid h
  have Hl := Lib.hid hl
  have hn := h.dead.small
  have hdl := h.dead.length
  by_cases h20 : x.dn ≤ 20
  case neg =>
    have Hr : Hid (deadB V = false) := Lib.hid (by simp [deadB, hdl, h20])
    have h20' : decide ((x.dn : Int) ≤ 20) = false := by simp; omega
    clear h hl hdl
    go_enter Try.func25, Try.ntmps25
    go_wp2
    go_ret
    exact ⟨ret_bool Hr.out.symm, (Below.refl _ _).alloc (Nat.le_refl _) _⟩
  case pos =>
    have Hr0 : Hid (deadB V = (risB V.dead && !V.dead.any (dbad V))) := Lib.hid (by simp [deadB, hdl, h20])
    have h20' : decide ((x.dn : Int) ≤ 20) = true := by simp; omega
    clear h hl hdl
    go_enter Try.func25, Try.ntmps25
    go_wp2_with fail
    have Hb1 : Hid (Below w.heap.size w (w.alloc (.cells (vC x) 25))) := Lib.hid ((Below.refl _ _).alloc (Nat.le_refl _) _)
    have HB := Lib.hid (BoxV.new w x)
    refine (rising_any _ _ _ _ V.dead (Hh.out.dead.below Hb1.out)).mono ?_
    rintro e w2 ⟨rfl, hb2⟩
    have Hb2 : Hid (Below w.heap.size w w2) := Lib.hid (bnext Hb1.out hb2)
    have HB2 := Lib.hid (HB.out.below hb2)
    have v3 := HB2.out.cells.2.2.2.1
    clear hb2
    cases hr : risB V.dead with
    | false =>
      have Hr : Hid (deadB V = false) := Lib.hid (by rw [Hr0.out, hr]; rfl)
      go_wp2
      go_ret
      exact ⟨ret_bool Hr.out.symm, Hb2.out⟩
    | true =>
      have Hr : Hid (deadB V = !V.dead.any (dbad V)) := Lib.hid (by rw [Hr0.out, hr]; rfl)
      go_wp2_with fail
      refine (some_dr _ _ _ _ V.dead (Hh.out.dead.below Hb2.out) _ (dbad V) ⟨fun u hu m => dr_run _ x V m u (HB2.out.below hu) (Hh.out.below (bnext Hb2.out hu)) Hl.out⟩).mono ?_
      rintro e w3 ⟨rfl, hb3⟩
      have Hb3 : Hid (Below w.heap.size w w3) := Lib.hid (bnext Hb2.out hb3)
      clear hb3
      go_wp2
      go_ret
      exact ⟨ret_bool Hr.out.symm, Hb3.out⟩
def chkB (V : Vw) : Bool := countsB V && (memB V && deadB V)
def chkE (V : Vw) : Int := if chkB V then 0 else 1
theorem counts_len {V : Vw} (h : countsB V = true) : (V.incs.length : Int) = V.nodes := by
  simp only [countsB, Bool.and_eq_true, decide_eq_true_eq] at h
  exact h.2.2.2.1
theorem Check_any (w : World) (x : Vx) (V : Vw) (h : IsV w x V) :
    Calls Try.prog 12 #[vV x] w fun e w' => e = .returned (.int .i64 (chkE V)) ∧ Below w.heap.size w w' := by
  have Hh := Lib.hid h
  clear h
  go_enter Try.func12, Try.ntmps12
  go_wp2_with fail
  have Hb1 : Hid (Below w.heap.size w (w.alloc (.cells (vC x) 25))) := Lib.hid ((Below.refl _ _).alloc (Nat.le_refl _) _)
  have HB := Lib.hid (BoxV.new w x)
  refine (counts_any _ x V (Hh.out.below Hb1.out)).mono ?_
  rintro e w2 ⟨rfl, hb2⟩
  have Hb2 : Hid (Below w.heap.size w w2) := Lib.hid (bnext Hb1.out hb2)
  have HB2 := Lib.hid (HB.out.below hb2)
  obtain ⟨v0, v1, v2, v3, v4⟩ := HB2.out.cells
  clear hb2
  cases hc : countsB V with
  | false =>
    have Hr : Hid (chkE V = 1) := Lib.hid (by simp [chkE, chkB, hc])
    go_wp2
    go_ret
    exact ⟨ret_int Hr.out.symm, Hb2.out⟩
  | true =>
    have Hl := Lib.hid (counts_len hc)
    have Hc := Lib.hid hc
    go_wp2_with fail
    refine (members_any _ x V (Hh.out.below Hb2.out) Hl.out).mono ?_
    rintro e w3 ⟨rfl, hb3⟩
    have Hb3 : Hid (Below w.heap.size w w3) := Lib.hid (bnext Hb2.out hb3)
    have HB3 := Lib.hid (HB2.out.below hb3)
    obtain ⟨v0, v1, v2, v3, v4⟩ := HB3.out.cells
    clear hb3 hc
    cases hm : memB V with
    | false =>
      have Hr : Hid (chkE V = 1) := Lib.hid (by simp [chkE, chkB, hm])
      go_wp2
      go_ret
      exact ⟨ret_int Hr.out.symm, Hb3.out⟩
    | true =>
      have Hm := Lib.hid hm
      go_wp2_with fail
      refine (dead_any _ x V (Hh.out.below Hb3.out) Hl.out).mono ?_
      rintro e w4 ⟨rfl, hb4⟩
      have Hb4 : Hid (Below w.heap.size w w4) := Lib.hid (bnext Hb3.out hb4)
      clear hb4 hm
      cases hd : deadB V with
      | false =>
        have Hr : Hid (chkE V = 1) := Lib.hid (by simp [chkE, chkB, hd])
        go_wp2
        go_ret
        exact ⟨ret_int Hr.out.symm, Hb4.out⟩
      | true =>
        have Hr : Hid (chkE V = 0) := Lib.hid (by simp [chkE, chkB, Hc.out, Hm.out, hd])
        go_wp2
        go_ret
        exact ⟨ret_int Hr.out.symm, Hb4.out⟩
end Go.Proofs.Ytnbhjehaecifcaa
