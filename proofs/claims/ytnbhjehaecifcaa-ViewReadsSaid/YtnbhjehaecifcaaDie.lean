/- A member that dies. -/
import Derived.Test.YtnbhjehaecifcaaTurn
namespace Go.Proofs.Ytnbhjehaecifcaa
open Go.RowKit

theorem isL_one (w : World) (m : Mb) : IsL (w.alloc (.cells #[.int .i64 m.1, .int .i64 m.2.1, .bool m.2.2] 43)) (some ⟨w.heap.size, 0, none⟩) 1 1 [m] := by
  obtain ⟨c0, c1, c2⟩ := (BoxM.new w m).cells
  refine ⟨rfl, Nat.le_refl _, by simp [maxLen], fun _ => ⟨w.heap.size, 0, rfl, by simp, fun i m' hm => ?_⟩, fun h => by cases h⟩
  match i, hm with
  | 0, hm =>
    simp at hm
    subst hm
    exact ⟨c0, c1, c2⟩
  | i + 1, hm => simp at hm
def dieV (V : Vw) (i : Nat) (m : Mb) : Vw :=
  { V with dead := V.dead.take (V.dead.findIdx (pBehind m.1)) ++ [(m.1, m.2.1, false)] ++ V.dead.drop (V.dead.findIdx (pBehind m.1)), mem := V.mem.take i ++ V.mem.drop (i + 1) }
set_option maxHeartbeats 4000000 in
theorem die_any (w : World) (B b r : Nat) (x : Vx) (V : Vw) (h : Ow w B b r x V) (hB : B ≤ w.heap.size) (i : Nat) (m : Mb) (hm : V.mem[i]? = some m) (h1 : V.mem.length ≤ 900) (h2 : V.dead.length ≤ 900) :
    Calls Try.prog 43 #[.pointer (some ⟨b, 0, none⟩), .int .i64 (i : Int)] w fun e w' => e = .returned (.tuple #[]) ∧ ∃ x', Ow w' B b r x' (dieV V i m) ∧ Below B w w' := by
  have hlen := RowM.len h.mem
  have hlen2 := RowM.len h.dead
  have hi : i < x.mn := by rw [← hlen]; exact (List.getElem?_eq_some_iff.1 hm).1
  have hi9 : i ≤ 900 := by omega
  have Hmn : Hid (x.mn ≤ 900) := Lib.hid (by omega)
  have Hdn : Hid (x.dn ≤ 900) := Lib.hid (by omega)
  have Hh := Lib.hid h
  have Hm := Lib.hid hm
  have HB := Lib.hid hB
  obtain ⟨v0, v1, v2, v3, v4⟩ := h.box.cells
  obtain ⟨g, off, eA, hg, hc⟩ := h.mem.isL.cells (by omega)
  obtain ⟨c0, c1, c2⟩ := hc i m hm
  obtain ⟨F, HF⟩ : ∃ F, Hid (V.dead.findIdx (pBehind m.1) = F) := ⟨_, Lib.hid rfl⟩
  have HFl : Hid (F ≤ x.dn) := Lib.hid (by rw [← HF.out, ← hlen2]; exact List.findIdx_le_length)
  have HeA := Lib.hid eA
  rw [eA] at v2
  clear h hlen hlen2 hc hm hB eA h1 h2
  go_enter Try.func43, Try.ntmps43
  go_wp2
  obtain ⟨w1, Hw1⟩ : ∃ w1, Hid (w.alloc (.cells #[.int .i64 m.1, .int .i64 m.2.1, .bool false] 43) = w1) := ⟨_, Lib.hid rfl⟩
  obtain ⟨p, Hp⟩ : ∃ p, Hid (w.heap.size = p) := ⟨_, Lib.hid rfl⟩
  obtain ⟨m', Hm'⟩ : ∃ m' : Mb, Hid ((m.1, m.2.1, false) = m') := ⟨_, Lib.hid rfl⟩
  have HM : Hid (BoxM w1 p m') := Lib.hid (by rw [← Hw1.out, ← Hp.out, ← Hm'.out]; exact BoxM.new w (m.1, m.2.1, false))
  have Hb1 : Hid (Below w.heap.size w w1) := Lib.hid (by rw [← Hw1.out]; exact (Below.refl _ _).alloc (Nat.le_refl _) _)
  have HO1 := Lib.hid (Hh.out.below Hb1.out)
  have HB1 : Hid (B ≤ w1.heap.size) := Lib.hid (Nat.le_trans HB.out Hb1.out.size)
  have HBw1 : Hid (Below B w w1) := Lib.hid (Hb1.out.mono HB.out)
  have e0 : m.1 = m'.1 := by rw [← Hm'.out]
  rw [Hw1.out, Hp.out]
  clear v0 v1 v2 v3 v4 c0 c1 c2
  have d0 : ∀ y : In (Abv w1), y.u.cell? ⟨p, 0, none⟩ = some (.int .i64 m'.1) := fun y => (HM.out.below y.is).cells.1
  have v3 : ∀ y : In (Abv w1), y.u.cell? ⟨b, 3, none⟩ = some (.slice x.dA x.dn x.dc) := fun y => (HO1.out.box.below y.is).cells.2.2.2.1
  clear e0
  refine wp_region_mix (by kernel_rfl) (Cls (Abv w1)) [(0, 0), (1, 0), (2, 0), (3, 0), (4, 0), (5, 0), (6, 1), (7, 1), (8, 0)] (by kernel_rfl) (cls (Below.refl _ _).drew) ?_
  repeat (refine mix0 rfl (fun K hK => ?_); go_simp; refine hK _ ?_; clear hK K)
  refine mix1 rfl (fun K hK => ?_)
  go_simp
  refine (behind_any m'.1 _).mono ?_
  rintro e w2 ⟨q, rfl, hb2, hcl⟩
  have Hb2 : Hid (Below w1.heap.size w1 w2) := Lib.hid ((Below.refl _ _).drew.trans hb2)
  have Hcl := Lib.hid hcl
  clear hb2 hcl
  refine ⟨_, rfl, hK _ _ (cls Hb2.out) ?_⟩
  clear hK K
  refine mix1 rfl (fun K hK => ?_)
  go_simp
  refine (find_behind _ _ _ _ V.dead (HO1.out.below Hb2.out).dead.isL _ _ Hcl.out).mono ?_
  rw [show V.dead.findIdx (pBehind m'.1) = F by rw [← Hm'.out]; exact HF.out]
  rintro e w3 ⟨rfl, hb3⟩
  have Hb3 : Hid (Below w1.heap.size w1 w3) := Lib.hid (bnext Hb2.out hb3)
  clear hb3
  refine ⟨_, rfl, hK _ _ (cls Hb3.out) ?_⟩
  clear hK K
  repeat (refine mix0 rfl (fun K hK => ?_); go_simp; refine hK _ ?_; clear hK K)
  refine mixEnd ?_
  clear d0 v3
  have HM3 := Lib.hid (HM.out.below Hb3.out)
  have HO3 := Lib.hid (HO1.out.below Hb3.out)
  have HB3 : Hid (B ≤ w3.heap.size) := Lib.hid (Nat.le_trans HB1.out Hb3.out.size)
  have HBw3 : Hid (Below B w w3) := Lib.hid (HBw1.out.trans (Hb3.out.mono HB1.out))
  have d0 : ∀ y : In (Abv w3), y.u.cell? ⟨p, 0, none⟩ = some (.int .i64 m'.1) := fun y => (HM3.out.below y.is).cells.1
  have d1 : ∀ y : In (Abv w3), y.u.cell? ⟨p, 1, none⟩ = some (.int .i64 m'.2.1) := fun y => (HM3.out.below y.is).cells.2.1
  have d2 : ∀ y : In (Abv w3), y.u.cell? ⟨p, 2, none⟩ = some (.bool m'.2.2) := fun y => (HM3.out.below y.is).cells.2.2
  have v3 : ∀ y : In (Abv w3), y.u.cell? ⟨b, 3, none⟩ = some (.slice x.dA x.dn x.dc) := fun y => (HO3.out.box.below y.is).cells.2.2.2.1
  go_wp2
  refine wp_region_mix (by kernel_rfl) (Cls (Abv w3)) [(0, 0), (1, 0), (2, 0), (3, 0), (4, 0), (5, 0), (6, 0), (7, 0), (8, 1), (9, 1), (10, 0), (11, 0), (12, 2)] (by kernel_rfl) (cls (Below.refl _ _).drew) ?_
  repeat (refine mix0 rfl (fun K hK => ?_); go_simp; refine hK _ ?_; clear hK K)
  refine mix1 rfl (fun K hK => ?_)
  go_simp
  have Hb3a : Hid (Below w3.heap.size w3 (w3.drew.alloc (.cells #[.int .i64 m'.1, .int .i64 m'.2.1, .bool m'.2.2] 43))) := Lib.hid (((Below.refl _ _).drew).alloc (by simp) _)
  refine hK _ _ (cls Hb3a.out) ?_
  clear hK K
  refine mix1 rfl (fun K hK => ?_)
  go_simp
  refine (put_any _ _ _ _ V.dead (HO3.out.below Hb3a.out).dead F F (Nat.le_refl _) HFl.out _ _ _ [m'] (isL_one w3.drew m') (by have := Hdn.out; omega) (by omega)).mono ?_
  rintro e w4 ⟨dA, dc, rfl, r4, hb4, n4⟩
  have Hb4 : Hid (Below w3.heap.size w3 w4) := Lib.hid (bnext Hb3a.out hb4)
  have R4 := Lib.hid r4
  have N4 : Hid (∀ g', blk (.slice dA (F + 1 + (x.dn - F)) dc) = some g' → blk (dS x) = some g' ∨ w3.heap.size ≤ g') := Lib.hid (fun g' hg' => by
    rcases n4 g' hg' with h | h
    · exact .inl h
    · have := Hb3a.out.size; exact .inr (by omega))
  clear hb4 r4 n4
  refine ⟨_, rfl, hK _ _ (cls Hb4.out) ?_⟩
  clear hK K
  repeat (refine mix0 rfl (fun K hK => ?_); go_simp; refine hK _ ?_; clear hK K)
  have HO4 := Lib.hid (HO3.out.deadTo HB3.out Hb4.out R4.out N4.out)
  have s3 := (HO3.out.box.below Hb4.out).cells.2.2.2.1
  have f3 := (HO3.out.box.below Hb4.out).free 3
  refine mix2 rfl (fun K hK => ?_); go_simp; refine hK _ _ ?_; clear hK K
  refine mixEnd ?_
  clear d0 d1 d2 v3 s3 f3
  obtain ⟨w5, Hw5⟩ : ∃ w5, Hid (w4.setCell ⟨b, 3, none⟩ (.slice dA (F + 1 + (x.dn - F)) dc) = w5) := ⟨_, Lib.hid rfl⟩
  have HO5 := HO4.out
  rw [Hw5.out] at HO5 ⊢
  have HO5 := Lib.hid HO5
  have HBw5 : Hid (Below B w w5) := Lib.hid (by rw [← Hw5.out]; exact (HBw3.out.trans (Hb4.out.mono HB3.out)).setCell Hh.out.lt _)
  have HB5 : Hid (B ≤ w5.heap.size) := Lib.hid (Nat.le_trans (Nat.le_of_lt (Nat.lt_of_le_of_lt Hh.out.lt HO5.out.box.lt)) (Nat.le_refl _))
  have v2 := HO5.out.box.cells.2.2.1
  have i1 : (i : Int) + 1 ≤ 1000 := by omega
  have hput := put_any _ _ _ _ V.mem HO5.out.mem i (i + 1) (by omega) (by show i + 1 ≤ x.mn; omega) none 0 0 [] (isL_none (by simp) (fun _ => rfl)) (by have := Hmn.out; show x.mn ≤ 1000; omega) (by omega)
  rw [show ((i + 1 : Nat) : Int) = (i : Int) + 1 by omega] at hput
  have Hput := Lib.hid hput
  clear hput
  go_wp2_with fail
  refine Hput.out.mono ?_
  rintro e w6 ⟨mA, mc, rfl, r6, hb6, n6⟩
  have Hb6 := Lib.hid hb6
  have R6 := Lib.hid r6
  have N6 := Lib.hid n6
  clear hb6 r6 n6
  have s2 := (HO5.out.box.below Hb6.out).cells.2.2.1
  have f2 := (HO5.out.box.below Hb6.out).free 2
  have HO7 := Lib.hid (HO5.out.memTo HB5.out Hb6.out R6.out N6.out)
  have HB7 : Hid (Below B w (w6.setCell ⟨b, 2, none⟩ (.slice mA (i + 0 + (x.mn - (i + 1))) mc))) := Lib.hid ((HBw5.out.trans (Hb6.out.mono HB5.out)).setCell Hh.out.lt _)
  obtain ⟨N, HN⟩ : ∃ N, Hid (i + 0 + (x.mn - (i + 1)) = N) := ⟨_, Lib.hid rfl⟩
  have HO8 := HO7.out
  have HB8 := HB7.out
  simp only [] at HO8
  rw [HN.out] at HB8 ⊢
  have HO8 : Hid (Ow (w6.setCell ⟨b, 2, none⟩ (.slice mA N mc)) B b r { x with dA := dA, dn := F + 1 + (x.dn - F), dc := dc, mA := mA, mn := N, mc := mc } (dieV V i m)) := Lib.hid (by
    have := HO7.out
    rw [HN.out] at this
    unfold dieV
    rw [HF.out, Hm'.out]
    simpa using this)
  have HB8 := Lib.hid HB8
  clear v2 i1
  go_wp2
  go_end0
  exact ⟨rfl, _, HO8.out, HB8.out⟩
end Go.Proofs.Ytnbhjehaecifcaa
