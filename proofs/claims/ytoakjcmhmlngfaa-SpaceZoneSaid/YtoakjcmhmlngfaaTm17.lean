/- Taking: the program's, at this translation. -/
import Derived.Test.YtoakjcmhmlngfaaLb17
namespace Go.Proofs.Ytoakjcmhmlngfaa
open Go.RowKit

/-- What Take answers. -/
def takeV (l : Lay) (M : List (List UInt8)) (zone n : Int) : List (List UInt8) × List Int × Bool :=
  if takeOk l M zone n then ((takeUp l M zone.toNat n.toNat 4).1, (takeUp l M zone.toNat n.toNat 4).2, true) else (M, [], false)
/-- What a slice's number of elements is, at a cell. -/
def lenAt (w : World) (r : Nat) : Nat := match w.cell? ⟨r, 0, none⟩ with
  | some (.slice _ n _) => n
  | _ => 0
theorem lenAt_of {w : World} {r n c : Nat} {A : Option Addr} (h : w.cell? ⟨r, 0, none⟩ = some (.slice A n c)) : lenAt w r = n := by rw [lenAt, h]
/-- The maps and the sectors that are told, in this world. -/
structure Told (w w' : World) (e : Ending) (M : List (List UInt8)) (S : List Int) (t : Bool) : Prop where
  is : ∃ A n c v, e = .returned (.tuple #[.slice A n c, v, .bool t]) ∧ RG w' 1 encT (.slice A n c) M ∧ RG w' 1 encI v S ∧ (∀ g, blk (.slice A n c) = some g → w.heap.size ≤ g) ∧ (∀ g, blk v = some g → w.heap.size ≤ g) ∧ (∀ g, blk v = some g → blk (.slice A n c) ≠ some g) ∧ (v = .slice none 0 0 ∨ t = true)
  below : Below w.heap.size w w'
theorem takeV_no {l : Lay} {M : List (List UInt8)} {zone n : Int} (h : takeOk l M zone n = false) : takeV l M zone n = (M, [], false) := by rw [takeV, h]; rfl
set_option maxRecDepth 100000 in
set_option maxHeartbeats 8000000 in
theorem Take_no (l : Lay) (A : Option Addr) (n c : Nat) (M : List (List UInt8)) (zone nn : Int) (w : World) (h : IsG w 1 encT A n M) (hn : n ≤ 1000) (hA : A = none → n = 0 ∧ c = 0) (hs : ∀ s ∈ M, s.length ≤ 100000) (hk : takeOk l M zone nn = false) :
    Calls Try.prog 8 #[l.v, .slice A n c, .int .i64 zone, .int .i64 nn] w fun e w' => Told w w' e (takeV l M zone nn).1 (takeV l M zone nn).2.1 (takeV l M zone nn).2.2 := by
  rw [takeV_no hk]
  obtain ⟨W, p, HW, Hp, HL⟩ := layBoxed l w
  have Lw : Hid (Below w.heap.size w W) := Lib.hid HL.out.2
  have hG := Lib.hid (h.below HL.out.2)
  have Hlen := Lib.hid h.length
  have hsm := h.small
  clear h
  cases hR : rightM l M with
  | false =>
    go_enter Try.func8, Try.ntmps8
    go_wp2_with fail
    rw [HW.out, Hp.out]
    go_step3
    go_wp2_with fail
    refine (CloneS_any W A n c M hG.out hn hA).mono ?_
    rintro e w1 ⟨A1, c1, rfl, hr1, hn1, hb1⟩
    have C1 : Hid (RG w1 1 encT (.slice A1 n c1) M ∧ (∀ g, blk (.slice A1 n c1) = some g → W.heap.size ≤ g) ∧ Below W.heap.size W w1) := Lib.hid ⟨hr1, hn1, hb1⟩
    clear hr1 hn1 hb1
    obtain ⟨q, Hq⟩ : ∃ q, Hid (w1.heap.size = q) := ⟨_, Lib.hid rfl⟩
    obtain ⟨w2, Hw2⟩ : ∃ u, Hid (w1.alloc (.cells #[.slice A1 n c1] 26) = u) := ⟨_, Lib.hid rfl⟩
    have D2 : Hid (w2.cell? ⟨q, 0, none⟩ = some (.slice A1 n c1) ∧ RG w2 1 encT (.slice A1 n c1) M ∧ Below W.heap.size W w2 ∧ LayAt w2 p l ∧ IsG w2 1 encT A n M) := Lib.hid (by
      have b : Below w1.heap.size w1 w2 := by rw [← Hw2.out]; exact balloc (Below.refl _ _) _
      have bW := bnext C1.out.2.2 b
      exact ⟨by rw [← Hw2.out, ← Hq.out]; simp [go_sem], C1.out.1.below b, bW, HL.out.1.below bW, hG.out.below bW⟩)
    obtain ⟨e0, e1, e2, e3⟩ := D2.out.2.2.2.1
    rw [← Hw2.out] at e0 e1 e2 e3
    have eq := D2.out.1
    go_wp2_with fail
    rw [Hw2.out, Hq.out]
    refine (SRight_any l A n c M w2 D2.out.2.2.2.2 hs).mono ?_
    rw [hR]
    rintro e w3 ⟨rfl, b3⟩
    have D3 : Hid (w3.cell? ⟨q, 0, none⟩ = some (.slice A1 n c1) ∧ RG w3 1 encT (.slice A1 n c1) M ∧ Below W.heap.size W w3 ∧ LayAt w3 p l ∧ IsG w3 1 encT A n M) := Lib.hid ⟨(b3.cell (p := ⟨q, 0, none⟩) (lt_of_cell eq)).trans eq, D2.out.2.1.below b3, bnext D2.out.2.2.1 b3, D2.out.2.2.2.1.below b3, D2.out.2.2.2.2.below b3⟩
    clear b3 e0 e1 e2 e3 eq
    obtain ⟨e0, e1, e2, e3⟩ := D3.out.2.2.2.1
    have eq := D3.out.1
    have HT : Hid (Told w w3 (.returned (.tuple #[.slice A1 n c1, .slice none 0 0, .bool false])) M [] false) := Lib.hid ⟨⟨A1, n, c1, .slice none 0 0, rfl, D3.out.2.1, RG.nil _ _ _, fun g e => Nat.le_trans Lw.out.size (C1.out.2.1 g e), (fun g e => by cases e), (fun g e => by cases e), .inl rfl⟩, bnext Lw.out D3.out.2.2.1⟩
    go_wp2
    rw [Exit.noGoto_ret]
    go_ret3
    exact HT.out
  | true =>
    rw [takeOk, hR, Bool.true_and] at hk
    by_cases c1 : zone < 0
    · clear hk
      go_enter Try.func8, Try.ntmps8
      go_wp2_with fail
      rw [HW.out, Hp.out]
      go_step3
      go_wp2_with fail
      refine (CloneS_any W A n c M hG.out hn hA).mono ?_
      rintro e w1 ⟨A1, c1, rfl, hr1, hn1, hb1⟩
      have C1 : Hid (RG w1 1 encT (.slice A1 n c1) M ∧ (∀ g, blk (.slice A1 n c1) = some g → W.heap.size ≤ g) ∧ Below W.heap.size W w1) := Lib.hid ⟨hr1, hn1, hb1⟩
      clear hr1 hn1 hb1
      obtain ⟨q, Hq⟩ : ∃ q, Hid (w1.heap.size = q) := ⟨_, Lib.hid rfl⟩
      obtain ⟨w2, Hw2⟩ : ∃ u, Hid (w1.alloc (.cells #[.slice A1 n c1] 26) = u) := ⟨_, Lib.hid rfl⟩
      have D2 : Hid (w2.cell? ⟨q, 0, none⟩ = some (.slice A1 n c1) ∧ RG w2 1 encT (.slice A1 n c1) M ∧ Below W.heap.size W w2 ∧ LayAt w2 p l ∧ IsG w2 1 encT A n M) := Lib.hid (by
        have b : Below w1.heap.size w1 w2 := by rw [← Hw2.out]; exact balloc (Below.refl _ _) _
        have bW := bnext C1.out.2.2 b
        exact ⟨by rw [← Hw2.out, ← Hq.out]; simp [go_sem], C1.out.1.below b, bW, HL.out.1.below bW, hG.out.below bW⟩)
      obtain ⟨e0, e1, e2, e3⟩ := D2.out.2.2.2.1
      rw [← Hw2.out] at e0 e1 e2 e3
      have eq := D2.out.1
      go_wp2_with fail
      rw [Hw2.out, Hq.out]
      refine (SRight_any l A n c M w2 D2.out.2.2.2.2 hs).mono ?_
      rw [hR]
      rintro e w3 ⟨rfl, b3⟩
      have D3 : Hid (w3.cell? ⟨q, 0, none⟩ = some (.slice A1 n c1) ∧ RG w3 1 encT (.slice A1 n c1) M ∧ Below W.heap.size W w3 ∧ LayAt w3 p l ∧ IsG w3 1 encT A n M) := Lib.hid ⟨(b3.cell (p := ⟨q, 0, none⟩) (lt_of_cell eq)).trans eq, D2.out.2.1.below b3, bnext D2.out.2.2.1 b3, D2.out.2.2.2.1.below b3, D2.out.2.2.2.2.below b3⟩
      clear b3 e0 e1 e2 e3 eq
      obtain ⟨e0, e1, e2, e3⟩ := D3.out.2.2.2.1
      have eq := D3.out.1
      have HT : Hid (Told w w3 (.returned (.tuple #[.slice A1 n c1, .slice none 0 0, .bool false])) M [] false) := Lib.hid ⟨⟨A1, n, c1, .slice none 0 0, rfl, D3.out.2.1, RG.nil _ _ _, fun g e => Nat.le_trans Lw.out.size (C1.out.2.1 g e), (fun g e => by cases e), (fun g e => by cases e), .inl rfl⟩, bnext Lw.out D3.out.2.2.1⟩
      go_wp2
      rw [Exit.noGoto_ret]
      go_ret3
      exact HT.out
    · skip
      by_cases c2 : 4 ≤ zone
      · clear hk
        go_enter Try.func8, Try.ntmps8
        go_wp2_with fail
        rw [HW.out, Hp.out]
        go_step3
        go_wp2_with fail
        refine (CloneS_any W A n c M hG.out hn hA).mono ?_
        rintro e w1 ⟨A1, c1, rfl, hr1, hn1, hb1⟩
        have C1 : Hid (RG w1 1 encT (.slice A1 n c1) M ∧ (∀ g, blk (.slice A1 n c1) = some g → W.heap.size ≤ g) ∧ Below W.heap.size W w1) := Lib.hid ⟨hr1, hn1, hb1⟩
        clear hr1 hn1 hb1
        obtain ⟨q, Hq⟩ : ∃ q, Hid (w1.heap.size = q) := ⟨_, Lib.hid rfl⟩
        obtain ⟨w2, Hw2⟩ : ∃ u, Hid (w1.alloc (.cells #[.slice A1 n c1] 26) = u) := ⟨_, Lib.hid rfl⟩
        have D2 : Hid (w2.cell? ⟨q, 0, none⟩ = some (.slice A1 n c1) ∧ RG w2 1 encT (.slice A1 n c1) M ∧ Below W.heap.size W w2 ∧ LayAt w2 p l ∧ IsG w2 1 encT A n M) := Lib.hid (by
          have b : Below w1.heap.size w1 w2 := by rw [← Hw2.out]; exact balloc (Below.refl _ _) _
          have bW := bnext C1.out.2.2 b
          exact ⟨by rw [← Hw2.out, ← Hq.out]; simp [go_sem], C1.out.1.below b, bW, HL.out.1.below bW, hG.out.below bW⟩)
        obtain ⟨e0, e1, e2, e3⟩ := D2.out.2.2.2.1
        rw [← Hw2.out] at e0 e1 e2 e3
        have eq := D2.out.1
        go_wp2_with fail
        rw [Hw2.out, Hq.out]
        refine (SRight_any l A n c M w2 D2.out.2.2.2.2 hs).mono ?_
        rw [hR]
        rintro e w3 ⟨rfl, b3⟩
        have D3 : Hid (w3.cell? ⟨q, 0, none⟩ = some (.slice A1 n c1) ∧ RG w3 1 encT (.slice A1 n c1) M ∧ Below W.heap.size W w3 ∧ LayAt w3 p l ∧ IsG w3 1 encT A n M) := Lib.hid ⟨(b3.cell (p := ⟨q, 0, none⟩) (lt_of_cell eq)).trans eq, D2.out.2.1.below b3, bnext D2.out.2.2.1 b3, D2.out.2.2.2.1.below b3, D2.out.2.2.2.2.below b3⟩
        clear b3 e0 e1 e2 e3 eq
        obtain ⟨e0, e1, e2, e3⟩ := D3.out.2.2.2.1
        have eq := D3.out.1
        have HT : Hid (Told w w3 (.returned (.tuple #[.slice A1 n c1, .slice none 0 0, .bool false])) M [] false) := Lib.hid ⟨⟨A1, n, c1, .slice none 0 0, rfl, D3.out.2.1, RG.nil _ _ _, fun g e => Nat.le_trans Lw.out.size (C1.out.2.1 g e), (fun g e => by cases e), (fun g e => by cases e), .inl rfl⟩, bnext Lw.out D3.out.2.2.1⟩
        go_wp2
        rw [Exit.noGoto_ret]
        go_ret3
        exact HT.out
      · skip
        by_cases c3 : nn < 0
        · clear hk
          go_enter Try.func8, Try.ntmps8
          go_wp2_with fail
          rw [HW.out, Hp.out]
          go_step3
          go_wp2_with fail
          refine (CloneS_any W A n c M hG.out hn hA).mono ?_
          rintro e w1 ⟨A1, c1, rfl, hr1, hn1, hb1⟩
          have C1 : Hid (RG w1 1 encT (.slice A1 n c1) M ∧ (∀ g, blk (.slice A1 n c1) = some g → W.heap.size ≤ g) ∧ Below W.heap.size W w1) := Lib.hid ⟨hr1, hn1, hb1⟩
          clear hr1 hn1 hb1
          obtain ⟨q, Hq⟩ : ∃ q, Hid (w1.heap.size = q) := ⟨_, Lib.hid rfl⟩
          obtain ⟨w2, Hw2⟩ : ∃ u, Hid (w1.alloc (.cells #[.slice A1 n c1] 26) = u) := ⟨_, Lib.hid rfl⟩
          have D2 : Hid (w2.cell? ⟨q, 0, none⟩ = some (.slice A1 n c1) ∧ RG w2 1 encT (.slice A1 n c1) M ∧ Below W.heap.size W w2 ∧ LayAt w2 p l ∧ IsG w2 1 encT A n M) := Lib.hid (by
            have b : Below w1.heap.size w1 w2 := by rw [← Hw2.out]; exact balloc (Below.refl _ _) _
            have bW := bnext C1.out.2.2 b
            exact ⟨by rw [← Hw2.out, ← Hq.out]; simp [go_sem], C1.out.1.below b, bW, HL.out.1.below bW, hG.out.below bW⟩)
          obtain ⟨e0, e1, e2, e3⟩ := D2.out.2.2.2.1
          rw [← Hw2.out] at e0 e1 e2 e3
          have eq := D2.out.1
          go_wp2_with fail
          rw [Hw2.out, Hq.out]
          refine (SRight_any l A n c M w2 D2.out.2.2.2.2 hs).mono ?_
          rw [hR]
          rintro e w3 ⟨rfl, b3⟩
          have D3 : Hid (w3.cell? ⟨q, 0, none⟩ = some (.slice A1 n c1) ∧ RG w3 1 encT (.slice A1 n c1) M ∧ Below W.heap.size W w3 ∧ LayAt w3 p l ∧ IsG w3 1 encT A n M) := Lib.hid ⟨(b3.cell (p := ⟨q, 0, none⟩) (lt_of_cell eq)).trans eq, D2.out.2.1.below b3, bnext D2.out.2.2.1 b3, D2.out.2.2.2.1.below b3, D2.out.2.2.2.2.below b3⟩
          clear b3 e0 e1 e2 e3 eq
          obtain ⟨e0, e1, e2, e3⟩ := D3.out.2.2.2.1
          have eq := D3.out.1
          have HT : Hid (Told w w3 (.returned (.tuple #[.slice A1 n c1, .slice none 0 0, .bool false])) M [] false) := Lib.hid ⟨⟨A1, n, c1, .slice none 0 0, rfl, D3.out.2.1, RG.nil _ _ _, fun g e => Nat.le_trans Lw.out.size (C1.out.2.1 g e), (fun g e => by cases e), (fun g e => by cases e), .inl rfl⟩, bnext Lw.out D3.out.2.2.1⟩
          go_wp2
          rw [Exit.noGoto_ret]
          go_ret3
          exact HT.out
        · skip
          have c4 : freeM l M < nn := by
            have : ¬ nn ≤ freeM l M := fun e => by
              rw [decide_eq_true (by omega : (0 : Int) ≤ zone), decide_eq_true (by omega : zone < 4), decide_eq_true (by omega : (0 : Int) ≤ nn), decide_eq_true e] at hk
              cases hk
            omega
          clear hk
          obtain ⟨fr, Hfr⟩ : ∃ x, Hid (freeM l M = x) := ⟨_, Lib.hid rfl⟩
          rw [Hfr.out] at c4
          go_enter Try.func8, Try.ntmps8
          go_wp2_with fail
          rw [HW.out, Hp.out]
          go_step3
          go_wp2_with fail
          refine (CloneS_any W A n c M hG.out hn hA).mono ?_
          rintro e w1 ⟨A1, c1, rfl, hr1, hn1, hb1⟩
          have C1 : Hid (RG w1 1 encT (.slice A1 n c1) M ∧ (∀ g, blk (.slice A1 n c1) = some g → W.heap.size ≤ g) ∧ Below W.heap.size W w1) := Lib.hid ⟨hr1, hn1, hb1⟩
          clear hr1 hn1 hb1
          obtain ⟨q, Hq⟩ : ∃ q, Hid (w1.heap.size = q) := ⟨_, Lib.hid rfl⟩
          obtain ⟨w2, Hw2⟩ : ∃ u, Hid (w1.alloc (.cells #[.slice A1 n c1] 26) = u) := ⟨_, Lib.hid rfl⟩
          have D2 : Hid (w2.cell? ⟨q, 0, none⟩ = some (.slice A1 n c1) ∧ RG w2 1 encT (.slice A1 n c1) M ∧ Below W.heap.size W w2 ∧ LayAt w2 p l ∧ IsG w2 1 encT A n M) := Lib.hid (by
            have b : Below w1.heap.size w1 w2 := by rw [← Hw2.out]; exact balloc (Below.refl _ _) _
            have bW := bnext C1.out.2.2 b
            exact ⟨by rw [← Hw2.out, ← Hq.out]; simp [go_sem], C1.out.1.below b, bW, HL.out.1.below bW, hG.out.below bW⟩)
          obtain ⟨e0, e1, e2, e3⟩ := D2.out.2.2.2.1
          rw [← Hw2.out] at e0 e1 e2 e3
          have eq := D2.out.1
          go_wp2_with fail
          rw [Hw2.out, Hq.out]
          refine (SRight_any l A n c M w2 D2.out.2.2.2.2 hs).mono ?_
          rw [hR]
          rintro e w3 ⟨rfl, b3⟩
          have D3 : Hid (w3.cell? ⟨q, 0, none⟩ = some (.slice A1 n c1) ∧ RG w3 1 encT (.slice A1 n c1) M ∧ Below W.heap.size W w3 ∧ LayAt w3 p l ∧ IsG w3 1 encT A n M) := Lib.hid ⟨(b3.cell (p := ⟨q, 0, none⟩) (lt_of_cell eq)).trans eq, D2.out.2.1.below b3, bnext D2.out.2.2.1 b3, D2.out.2.2.2.1.below b3, D2.out.2.2.2.2.below b3⟩
          clear b3 e0 e1 e2 e3 eq
          obtain ⟨e0, e1, e2, e3⟩ := D3.out.2.2.2.1
          have eq := D3.out.1
          go_wp2_with fail
          refine (SFree_any l A n c M w3 D3.out.2.2.2.2 hs).mono ?_
          rw [Hfr.out]
          rintro e w4 ⟨rfl, b4⟩
          have eq4 := (b4.cell (p := ⟨q, 0, none⟩) (lt_of_cell eq)).trans eq
          have HT : Hid (Told w w4 (.returned (.tuple #[.slice A1 n c1, .slice none 0 0, .bool false])) M [] false) := Lib.hid ⟨⟨A1, n, c1, .slice none 0 0, rfl, (D3.out.2.1.below b4), RG.nil _ _ _, fun g e => Nat.le_trans Lw.out.size (C1.out.2.1 g e), (fun g e => by cases e), (fun g e => by cases e), .inl rfl⟩, bnext Lw.out (bnext D3.out.2.2.1 b4)⟩
          clear b4
          go_wp2
          rw [Exit.noGoto_ret]
          go_ret3
          exact HT.out
end Go.Proofs.Ytoakjcmhmlngfaa
