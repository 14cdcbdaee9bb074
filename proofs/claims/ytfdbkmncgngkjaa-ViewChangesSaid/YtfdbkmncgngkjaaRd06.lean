/- The document's Bury, Leave, Ready, Join. -/
import Derived.Test.YtfdbkmncgngkjaaRc06
import Derived.Test.YtfdbkmncgngkjaaPl06
namespace Go.Proofs.Ytfdbkmncgngkjaa
open Go.RowKit

/-- A slice told is the one that was there, or one that is new. -/
def FarS (n : Nat) (k k' : Nat) (v v' : Value) : Prop := ∀ i, 0 < k' → blk v' = some i → (0 < k ∧ blk v = some i) ∨ n ≤ i
theorem FarS.same {n k : Nat} {v : Value} : FarS n k k v v := fun _ h e => .inl ⟨h, e⟩
theorem FarS.new {n k k' : Nat} {v v' : Value} (h : ∀ i, blk v' = some i → n ≤ i) : FarS n k k' v v' := fun i _ e => .inr (h i e)
structure Far (n : Nat) (x x' : Vx) : Prop where
  mem : FarS n x.mn x'.mn (mS x) (mS x')
  dead : FarS n x.dn x'.dn (dS x) (dS x')
  incs : FarS n x.ir x'.ir (iS x) (iS x')
theorem Far.refl (n : Nat) (x : Vx) : Far n x x := ⟨FarS.same, FarS.same, FarS.same⟩
theorem OwnL.isL {w : World} {B : Nat} {A : Option Addr} {n c : Nat} {l : List Mb} (h : OwnL w B A n c l) : IsL w A n c l := h.row.isL
theorem IsL.kept {S : Nat → Prop} {w w' : World} {A : Option Addr} {n c : Nat} {l : List Mb} (h : IsL w A n c l) (m : Mod S w w') (hs : 0 < n → ∀ g, blk (.slice A n c) = some g → ¬ S g) : IsL w' A n c l :=
  ⟨h.length, h.le, h.max, fun h0 => by
    obtain ⟨g, off, e, hg, hc⟩ := h.cells h0
    subst e
    have hn := hs h0 g rfl
    refine ⟨g, off, rfl, Nat.lt_of_lt_of_le hg m.size, fun i q hq => ?_⟩
    obtain ⟨c0, c1, c2⟩ := hc i q hq
    exact ⟨(m.cell (p := ⟨g, off + i * 3, none⟩) hg hn).trans c0, (m.cell (p := ⟨g, off + i * 3 + 1, none⟩) hg hn).trans c1, (m.cell (p := ⟨g, off + i * 3 + 2, none⟩) hg hn).trans c2⟩, h.nil⟩
/-- The lists of a view that is copied. -/
theorem IsV.deadTo {w w' : World} {x : Vx} {V : Vw} (h : IsV w x V) (m : Below w.heap.size w w') {A : Option Addr} {n c : Nat} {l : List Mb} (k : IsL w' A n c l) : IsV w' { x with dA := A, dn := n, dc := c } { V with dead := l } :=
  ⟨h.nodes, h.epoch, h.mem.below m, k, h.incs.below m⟩
set_option maxRecDepth 100000 in
set_option maxHeartbeats 4000000 in
theorem RBury_any (w : World) (x : Vx) (V : Vw) (h : IsV w x V) (hs : V.mem.length ≤ 1000) (hd : V.dead.length ≤ 1000) (node inc : Int) :
    Calls Try.prog 30 #[vV x, .int .i64 node, .int .i64 inc] w fun e w' => ∃ x', e = .returned (.tuple #[vV x', .bool (buryB V node inc)]) ∧ IsV w' x' (buryV V node inc) ∧ Below w.heap.size w w' ∧ Far w.heap.size x x' := by
  go_enter Try.func30, Try.ntmps30
  go_upto_region 1 with (fail)
  obtain ⟨w1, Hw1⟩ : ∃ w1, Hid ((w.alloc (.cells (vC x) 25)).alloc (.cells (vC noVx) 25) = w1) := ⟨_, Lib.hid rfl⟩
  obtain ⟨b, Hb⟩ : ∃ b, Hid (w.heap.size = b) := ⟨_, Lib.hid rfl⟩
  have HA : Hid (BoxV w1 b x) := Lib.hid (by rw [← Hw1.out, ← Hb.out]; exact (BoxV.new w x).below ((Below.refl _ _).alloc (Nat.le_refl _) _))
  have HR : Hid (BoxV w1 (b + 1) noVx) := Lib.hid (by
    have := BoxV.new (w.alloc (.cells (vC x) 25)) noVx
    rw [Hw1.out] at this
    simpa [Hb.out] using this)
  have HB1 : Hid (Below b w w1) := Lib.hid (by rw [← Hb.out, ← Hw1.out]; exact balloc ((Below.refl _ _).alloc (Nat.le_refl _) _) _)
  have HV1 : Hid (IsV w1 x V) := Lib.hid (h.below (by rw [Hb.out]; exact HB1.out))
  have Hh := Lib.hid h
  clear h
  rw [show ((w.alloc (.cells #[.int .i64 x.nodes, .int .i64 x.epoch, .slice x.mA x.mn x.mc, .slice x.dA x.dn x.dc, .slice x.iA x.ir x.ic] 25)).alloc (.cells #[.int .i64 0, .int .i64 0, .slice none 0 0, .slice none 0 0, .slice none 0 0] 25)) = w1 from Hw1.out, Hb.out]
  obtain ⟨v0, v1, v2, v3, v4⟩ := HA.out.cells
  go_wp2_with fail
  refine (RCheck_any w1 x V HV1.out hs).mono ?_
  rintro e w2 ⟨rfl, b2⟩
  have HB2 : Hid (Below b w w2) := Lib.hid (HB1.out.trans (b2.mono (by have := HA.out.lt; omega)))
  have HA2 := Lib.hid (HA.out.below b2)
  have HR2 := Lib.hid (HR.out.below b2)
  clear b2 v0 v1 v2 v3 v4
  by_cases hno : chkB V = false ∨ inc < 1
  · have Hj : Hid (buryB V node inc = false) := Lib.hid (by
      rcases hno with hc | hi
      · unfold buryB; rw [hc]; rfl
      · cases hc : chkB V with
        | false => unfold buryB; rw [hc]; rfl
        | true =>
          unfold buryB
          have hF : V.dead.findIdx (pIs node inc) = V.dead.length := List.findIdx_eq_length_of_false (fun d hd => by
            have := ((ok_iff V).1 hc).dd d hd
            simp only [pIs, Bool.and_eq_false_iff, beq_eq_false_iff_ne]
            right
            omega)
          rw [hF]
          simp)
    have Hjv := Lib.hid (bury_not Hj.out)
    have hq : (chkE V != 0) = true ∨ ((chkE V != 0) = false ∧ inc < 1) := by
      cases hc : chkB V with
      | false => exact .inl (by simp [chkE, hc])
      | true => exact .inr ⟨by simp [chkE, hc], by rcases hno with h | h; rw [hc] at h; cases h; exact h⟩
    clear hno
    rcases hq with q1 | ⟨q1, q2⟩
    all_goals
      obtain ⟨v0, v1, v2, v3, v4⟩ := HA2.out.cells
      obtain ⟨r0, r1, r2, r3, r4⟩ := HR2.out.cells
      have f0 := HR2.out.free 0
      have f1 := HR2.out.free 1
      have f2 := HR2.out.free 2
      have f3 := HR2.out.free 3
      have f4 := HR2.out.free 4
      go_wp2
      clear v0 v1 v2 v3 v4 r0 r1 r2 r3 r4 f0 f1 f2 f3 f4
      obtain ⟨s0, s1, s2, s3, s4⟩ := (setV_box HR2.out x).cells
      have HBe : Hid (Below w.heap.size w (setV w2 (b + 1) x)) := Lib.hid (by rw [Hb.out]; exact (setV_mod _ _ _).below HB2.out (by have := HA2.out.lt; omega) (fun i e => by rw [show i = b + 1 from e]; omega))
      exact bodyPost_ret (v := .tuple #[vV x, .bool false]) (by simp [results, Try.results30, go_sem, s0, s1, s2, s3, s4]) rfl ⟨x, by rw [Hj.out], by rw [Hjv.out]; exact Hh.out.below HBe.out, HBe.out, Far.refl _ _⟩
  · have hck : chkB V = true := by cases hc : chkB V with | true => rfl | false => exact absurd (.inl hc) hno
    have hi1 : ¬ inc < 1 := fun h => hno (.inr h)
    have q1 : (chkE V != 0) = false := by simp [chkE, hck]
    have Hck := Lib.hid hck
    clear hno hck
    obtain ⟨v0, v1, v2, v3, v4⟩ := HA2.out.cells
    go_upto_region 4 with (fail)
    clear v0 v1 v2 v3 v4
    obtain ⟨g, Hg⟩ : ∃ g, Hid (w2.heap.size = g) := ⟨_, Lib.hid rfl⟩
    obtain ⟨w3, Hw3⟩ : ∃ u, Hid (w2.alloc (.cells (vC x) 25) = u) := ⟨_, Lib.hid rfl⟩
    have HG3 : Hid (BoxV w3 g x) := Lib.hid (by rw [← Hw3.out, ← Hg.out]; exact BoxV.new w2 x)
    have hb3 : Below w2.heap.size w2 w3 := by rw [← Hw3.out]; exact balloc (Below.refl _ _) _
    have HA3 := Lib.hid (HA2.out.below hb3)
    have HR3 := Lib.hid (HR2.out.below hb3)
    have HB3 : Hid (Below b w w3) := Lib.hid (HB2.out.trans (hb3.mono (by have := HA2.out.lt; omega)))
    have Hgb : Hid (b + 1 < g) := Lib.hid (by have := HR2.out.lt; have := Hg.out; omega)
    rw [show w2.alloc (.cells #[.int .i64 x.nodes, .int .i64 x.epoch, .slice x.mA x.mn x.mc, .slice x.dA x.dn x.dc, .slice x.iA x.ir x.ic] 25) = w3 from Hw3.out, Hg.out]
    clear hb3
    have HV3 := Lib.hid (Hh.out.below (by rw [Hb.out]; exact HB3.out))
    have hwo := Lib.hid (without_any w3 x.dA x.dn x.dc V.dead HV3.out.dead hd node inc)
    obtain ⟨v0, v1, v2, v3, v4⟩ := HA3.out.cells
    go_wp2_with fail
    refine hwo.out.mono ?_
    rintro e w4 ⟨A4, n4, c4, rfl, O4, b4⟩
    have HO4 := Lib.hid O4
    have HA4 := Lib.hid (HA3.out.below b4)
    have HR4 := Lib.hid (HR3.out.below b4)
    have HG4 := Lib.hid (HG3.out.below b4)
    have HB4 : Hid (Below b w w4) := Lib.hid (HB3.out.trans (b4.mono (by have := HA3.out.lt; omega)))
    have Hn4 : Hid ((V.dead.filter (pWo node inc)).length = n4) := Lib.hid O4.isL.length
    have Hdn : Hid (V.dead.length = x.dn) := Lib.hid HV3.out.dead.length
    have hn4 : n4 ≤ x.dn := by have h1 := Hn4.out; have h2 := Hdn.out; have h3 := List.length_filter_le (pWo node inc) V.dead; omega
    have Hfar : Hid (∀ h, blk (.slice A4 n4 c4) = some h → h ≠ g ∧ h ≠ b + 1) := Lib.hid (fun h hh => by have h1 := O4.new h hh; have h2 := HG3.out.lt; have := Hgb.out; omega)
    clear O4 b4 v0 v1 v2 v3 v4 hwo
    have g3 := HG4.out.cells.2.2.2.1
    have gf := HG4.out.free 3
    go_upto_region 5 with (fail)
    clear g3 gf
    obtain ⟨w5, Hw5⟩ : ∃ u, Hid (w4.setCell ⟨g, 3, none⟩ (.slice A4 n4 c4) = u) := ⟨_, Lib.hid rfl⟩
    obtain ⟨y, Hy⟩ : ∃ y, Hid (({ x with dA := A4, dn := n4, dc := c4 } : Vx) = y) := ⟨_, Lib.hid rfl⟩
    have m5 : Mod (· = g) w4 w5 := by rw [← Hw5.out]; exact mod_cell w4 ⟨g, 3, none⟩ _
    have HG5 : Hid (BoxV w5 g y) := Lib.hid (by rw [← Hw5.out, ← Hy.out]; exact HG4.out.put 3 _ _ rfl)
    have HA5 := Lib.hid (HA4.out.kept m5 (by have := Hgb.out; omega))
    have HR5 := Lib.hid (HR4.out.kept m5 (by have := Hgb.out; omega))
    have HB5 : Hid (Below b w w5) := Lib.hid (m5.below HB4.out (by have := HA4.out.lt; omega) (fun i e => by have := Hgb.out; rw [show i = g from e]; omega))
    have HD5 := Lib.hid (HO4.out.isL.kept m5 (fun _ h hh e => (Hfar.out h hh).1 e))
    have Hy3 : Hid (y.dA = A4 ∧ y.dn = n4 ∧ y.dc = c4) := Lib.hid (by rw [← Hy.out]; exact ⟨rfl, rfl, rfl⟩)
    rw [Hw5.out]
    clear m5
    by_cases hnn : n4 = x.dn
    · have hnn' : ((n4 : Int) == (x.dn : Int)) = true := beq_yes (by omega)
      have Hall : Hid (V.dead.filter (pWo node inc) = V.dead) := Lib.hid (List.filter_sublist.eq_of_length (by rw [Hn4.out, hnn, Hdn.out]))
      have Hj : Hid (buryB V node inc = false) := Lib.hid (by
        unfold buryB
        have hF : V.dead.findIdx (pIs node inc) = V.dead.length := List.findIdx_eq_length_of_false (fun d hd => by
          have h1 := (List.filter_eq_self.1 Hall.out) d hd
          rw [wo_is (by omega)] at h1
          simpa using h1)
        rw [hF]
        simp)
      have Hjv := Lib.hid (bury_not Hj.out)
      obtain ⟨v0, v1, v2, v3, v4⟩ := HA5.out.cells
      obtain ⟨r0, r1, r2, r3, r4⟩ := HR5.out.cells
      have g3 := HG5.out.cells.2.2.2.1
      rw [Hy3.out.1, Hy3.out.2.1, Hy3.out.2.2] at g3
      have f0 := HR5.out.free 0
      have f1 := HR5.out.free 1
      have f2 := HR5.out.free 2
      have f3 := HR5.out.free 3
      have f4 := HR5.out.free 4
      clear hnn
      go_wp2
      clear v0 v1 v2 v3 v4 r0 r1 r2 r3 r4 f0 f1 f2 f3 f4 g3
      obtain ⟨s0, s1, s2, s3, s4⟩ := (setV_box HR5.out x).cells
      have HBe : Hid (Below w.heap.size w (setV w5 (b + 1) x)) := Lib.hid (by rw [Hb.out]; exact (setV_mod _ _ _).below HB5.out (by have := HA5.out.lt; omega) (fun i e => by rw [show i = b + 1 from e]; omega))
      exact bodyPost_ret (v := .tuple #[vV x, .bool false]) (by simp [results, Try.results30, go_sem, s0, s1, s2, s3, s4]) rfl ⟨x, by rw [Hj.out], by rw [Hjv.out]; exact Hh.out.below HBe.out, HBe.out, Far.refl _ _⟩
    · have hnn' : ((n4 : Int) == (x.dn : Int)) = false := beq_no (by omega)
      have Hj : Hid (buryB V node inc = true) := Lib.hid (by
        unfold buryB
        rw [Hck.out]
        simp only [Bool.true_and, decide_eq_true_eq]
        have h1 := List.findIdx_le_length (xs := V.dead) (p := pIs node inc)
        rcases Nat.lt_or_ge (V.dead.findIdx (pIs node inc)) V.dead.length with h2 | h2
        · exact h2
        · exfalso
          have hF : V.dead.filter (pWo node inc) = V.dead := by
            rw [wo_is (by omega)]
            refine filter_none (fun d hd => ?_)
            have := (List.findIdx_eq_length).1 (show V.dead.findIdx (pIs node inc) = V.dead.length by omega) d hd
            simpa using this
          have h3 := Hn4.out
          rw [hF, Hdn.out] at h3
          exact hnn h3.symm)
      have Hjv := Lib.hid (bury_eq ((ok_iff V).1 Hck.out) (show inc ≠ 0 by omega) Hj.out)
      have g3 := HG5.out.cells
      obtain ⟨g0, g1, g2, g3, g4⟩ := g3
      rw [Hy3.out.1, Hy3.out.2.1, Hy3.out.2.2] at g3
      obtain ⟨v0, v1, v2, v3, v4⟩ := HA5.out.cells
      obtain ⟨r0, r1, r2, r3, r4⟩ := HR5.out.cells
      have f0 := HR5.out.free 0
      have f1 := HR5.out.free 1
      have f2 := HR5.out.free 2
      have f3 := HR5.out.free 3
      have f4 := HR5.out.free 4
      clear hnn
      go_wp2
      clear v0 v1 v2 v3 v4 r0 r1 r2 r3 r4 f0 f1 f2 f3 f4 g0 g1 g2 g3 g4
      have HFe : Hid (Far w.heap.size x y) := Lib.hid (by
        rw [← Hy.out]
        exact ⟨FarS.same, FarS.new (fun i hi => by have h1 := HO4.out.new i hi; have := HB3.out.size; omega), FarS.same⟩)
      obtain ⟨e1, e2, e3⟩ := Hy3.out
      have HDe := Lib.hid (HD5.out.kept (setV_mod w5 (b + 1) y) (fun _ h hh e => (Hfar.out h hh).2 e))
      have HBe : Hid (Below w.heap.size w (setV w5 (b + 1) y)) := Lib.hid (by rw [Hb.out]; exact (setV_mod _ _ _).below HB5.out (by have := HA5.out.lt; omega) (fun i e => by rw [show i = b + 1 from e]; omega))
      have HVe : Hid (IsV (setV w5 (b + 1) y) y { V with dead := V.dead.filter (pWo node inc) }) := Lib.hid (by
        have h1 := Hh.out.below HBe.out
        have h2 := HDe.out
        rw [← e1, ← e2, ← e3] at h2
        exact ⟨by rw [← Hy.out]; exact h1.nodes, by rw [← Hy.out]; exact h1.epoch, by rw [← Hy.out] at h1 ⊢; exact h1.mem, h2, by rw [← Hy.out] at h1 ⊢; exact h1.incs⟩)
      rw [Hjv.out] at HVe
      rw [← e1, ← e2, ← e3]
      obtain ⟨s0, s1, s2, s3, s4⟩ := (setV_box HR5.out y).cells
      exact bodyPost_ret (v := .tuple #[vV y, .bool true]) (by simp [results, Try.results30, go_sem, s0, s1, s2, s3, s4]) rfl ⟨y, by rw [Hj.out], HVe.out, HBe.out, HFe.out⟩
end Go.Proofs.Ytfdbkmncgngkjaa
