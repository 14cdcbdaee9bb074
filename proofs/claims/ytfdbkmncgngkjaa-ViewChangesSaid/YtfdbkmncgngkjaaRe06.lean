/- A view's copy that the document changes field by field; its Leave. -/
import Derived.Test.YtfdbkmncgngkjaaRd06
namespace Go.Proofs.Ytfdbkmncgngkjaa
open Go.RowKit

theorem IsI.kept {S : Nat → Prop} {w w' : World} {A : Option Addr} {n c : Nat} {l : List Int} (h : IsI w A n c l) (m : Mod S w w') (hs : 0 < n → ∀ g, blk (.slice A n c) = some g → ¬ S g) : IsI w' A n c l :=
  ⟨h.length, h.le, h.max, fun h0 => by
    obtain ⟨g, off, e, hg, hc⟩ := h.cells h0
    subst e
    have hn := hs h0 g rfl
    exact ⟨g, off, rfl, Nat.lt_of_lt_of_le hg m.size, fun i q hq => (m.cell (p := ⟨g, off + i, none⟩) hg hn).trans (hc i q hq)⟩, h.nil⟩
/-- The document's copy y of the view x: the view lies in box b, the result in b + 1, the copy in g. -/
structure Cp (w0 w : World) (b g : Nat) (x y : Vx) (V V' : Vw) : Prop where
  size : w0.heap.size = b
  org0 : IsV w0 x V
  box : BoxV w b x
  res : BoxV w (b + 1) noVx
  cp : BoxV w g y
  isV : IsV w y V'
  awM : 0 < y.mn → ∀ h, blk (mS y) = some h → h ≠ g ∧ h ≠ b + 1
  awD : 0 < y.dn → ∀ h, blk (dS y) = some h → h ≠ g ∧ h ≠ b + 1
  awI : 0 < y.ir → ∀ h, blk (iS y) = some h → h ≠ g ∧ h ≠ b + 1
  below : Below b w0 w
  gb : b + 1 < g
  far : Far b x y
section
variable {w0 w w1 : World} {b g : Nat} {x y : Vx} {V V' : Vw}
theorem Cp.org (h : Cp w0 w b g x y V V') : IsV w x V := h.org0.below (by rw [h.size]; exact h.below)
theorem Cp.to (h : Cp w0 w b g x y V V') (m : Below w.heap.size w w1) : Cp w0 w1 b g x y V V' :=
  ⟨h.size, h.org0, h.box.below m, h.res.below m, h.cp.below m, h.isV.below m, h.awM, h.awD, h.awI, h.below.trans (m.mono (Nat.le_of_lt h.box.lt)), h.gb, h.far⟩
theorem IsL.lowB {w : World} {A : Option Addr} {n c : Nat} {l : List Mb} (h : IsL w A n c l) (h0 : 0 < n) : ∀ g, blk (.slice A n c) = some g → g < w.heap.size := fun g hg => by
  obtain ⟨g', off, e, hl, _⟩ := h.cells h0
  subst e
  have e2 : g' = g := by simpa [blk] using hg
  omega
theorem IsI.lowB {w : World} {A : Option Addr} {n c : Nat} {l : List Int} (h : IsI w A n c l) (h0 : 0 < n) : ∀ g, blk (.slice A n c) = some g → g < w.heap.size := fun g hg => by
  obtain ⟨g', off, e, hl, _⟩ := h.cells h0
  subst e
  have e2 : g' = g := by simpa [blk] using hg
  omega
theorem Cp.start (hs : w0.heap.size = b) (h0 : IsV w0 x V) (hA : BoxV w b x) (hR : BoxV w (b + 1) noVx) (hB : Below b w0 w) :
    Cp w0 (w.alloc (.cells (vC x) 25)) b w.heap.size x x V V := by
  have m : Below w.heap.size w (w.alloc (.cells (vC x) 25)) := balloc (Below.refl _ _) _
  have hb := hA.lt
  have hr := hR.lt
  have hB' := hB.trans (m.mono (Nat.le_of_lt hb))
  exact ⟨hs, h0, hA.below m, hR.below m, BoxV.new w x, h0.below (by rw [hs]; exact hB'), fun hn h hh => by have := h0.mem.lowB hn h hh; exact ⟨by omega, by omega⟩,
    fun hn h hh => by have := h0.dead.lowB hn h hh; exact ⟨by omega, by omega⟩, fun hn h hh => by have := h0.incs.lowB hn h hh; exact ⟨by omega, by omega⟩, hB', by omega, Far.refl _ _⟩
theorem Cp.mem (h : Cp w0 w b g x y V V') (m : Below w.heap.size w w1) {A : Option Addr} {n c : Nat} {l : List Mb} (o : OwnL w1 w.heap.size A n c l) : Cp w0 (w1.setCell ⟨g, 2, none⟩ (.slice A n c)) b g x { y with mA := A, mn := n, mc := c } V { V' with mem := l } := by
  have k := h.to m
  have e : Mod (· = g) w1 (w1.setCell ⟨g, 2, none⟩ (.slice A n c)) := mod_cell w1 ⟨g, 2, none⟩ _
  have hgb := h.gb
  have hnew : ∀ i, blk (.slice A n c) = some i → i ≠ g ∧ i ≠ b + 1 := fun i hi => by have := o.new i hi; have := h.cp.lt; have := h.res.lt; exact ⟨by omega, by omega⟩
  refine ⟨h.size, h.org0, k.box.kept e (by omega), k.res.kept e (by omega), k.cp.put 2 _ _ rfl, ⟨h.isV.nodes, h.isV.epoch, o.isL.kept e (fun _ i hi => (hnew i hi).1), k.isV.dead.kept e (fun hn i hi => (h.awD hn i hi).1), k.isV.incs.kept e (fun hn i hi => (h.awI hn i hi).1)⟩, fun _ i hi => hnew i hi, h.awD, h.awI, e.below k.below (Nat.le_of_lt k.box.lt) (fun i hi => by rw [show i = g from hi]; omega), h.gb, ⟨FarS.new (fun i hi => by have := o.new i hi; have := h.box.lt; omega), h.far.dead, h.far.incs⟩⟩
theorem Cp.dead (h : Cp w0 w b g x y V V') (m : Below w.heap.size w w1) {A : Option Addr} {n c : Nat} {l : List Mb} (o : OwnL w1 w.heap.size A n c l) : Cp w0 (w1.setCell ⟨g, 3, none⟩ (.slice A n c)) b g x { y with dA := A, dn := n, dc := c } V { V' with dead := l } := by
  have k := h.to m
  have e : Mod (· = g) w1 (w1.setCell ⟨g, 3, none⟩ (.slice A n c)) := mod_cell w1 ⟨g, 3, none⟩ _
  have hgb := h.gb
  have hnew : ∀ i, blk (.slice A n c) = some i → i ≠ g ∧ i ≠ b + 1 := fun i hi => by have := o.new i hi; have := h.cp.lt; have := h.res.lt; exact ⟨by omega, by omega⟩
  refine ⟨h.size, h.org0, k.box.kept e (by omega), k.res.kept e (by omega), k.cp.put 3 _ _ rfl, ⟨h.isV.nodes, h.isV.epoch, k.isV.mem.kept e (fun hn i hi => (h.awM hn i hi).1), o.isL.kept e (fun _ i hi => (hnew i hi).1), k.isV.incs.kept e (fun hn i hi => (h.awI hn i hi).1)⟩, h.awM, fun _ i hi => hnew i hi, h.awI, e.below k.below (Nat.le_of_lt k.box.lt) (fun i hi => by rw [show i = g from hi]; omega), h.gb, ⟨h.far.mem, FarS.new (fun i hi => by have := o.new i hi; have := h.box.lt; omega), h.far.incs⟩⟩
theorem Cp.epoch (h : Cp w0 w b g x y V V') (n : Int) : Cp w0 (w.setCell ⟨g, 1, none⟩ (.int .i64 n)) b g x { y with epoch := n } V { V' with epoch := n } := by
  have e : Mod (· = g) w (w.setCell ⟨g, 1, none⟩ (.int .i64 n)) := mod_cell w ⟨g, 1, none⟩ _
  have hgb := h.gb
  exact ⟨h.size, h.org0, h.box.kept e (by omega), h.res.kept e (by omega), h.cp.put 1 _ _ rfl, ⟨h.isV.nodes, rfl, h.isV.mem.kept e (fun hn i hi => (h.awM hn i hi).1), h.isV.dead.kept e (fun hn i hi => (h.awD hn i hi).1), h.isV.incs.kept e (fun hn i hi => (h.awI hn i hi).1)⟩, h.awM, h.awD, h.awI, e.below h.below (Nat.le_of_lt h.box.lt) (fun i hi => by rw [show i = g from hi]; omega), h.gb, ⟨h.far.mem, h.far.dead, h.far.incs⟩⟩
/-- The copy is told. -/
theorem Cp.tell (h : Cp w0 w b g x y V V') : IsV (setV w (b + 1) y) y V' ∧ Below w0.heap.size w0 (setV w (b + 1) y) ∧ Far w0.heap.size x y := by
  have e := setV_mod w (b + 1) y
  refine ⟨⟨h.isV.nodes, h.isV.epoch, h.isV.mem.kept e (fun hn i hi => (h.awM hn i hi).2), h.isV.dead.kept e (fun hn i hi => (h.awD hn i hi).2), h.isV.incs.kept e (fun hn i hi => (h.awI hn i hi).2)⟩, ?_⟩
  rw [h.size]
  refine ⟨?_, h.far⟩
  exact e.below h.below (Nat.le_of_lt h.box.lt) (fun i hi => by rw [show i = b + 1 from hi]; omega)
end
theorem inc_any {V : Vw} (h : Ok V) (node : Int) : incOf V node ≠ 0 ↔ V.mem.any (pOf node) = true := by
  rw [← fi_some]
  constructor
  · intro hi
    obtain ⟨m, hm, e1, _⟩ := incOf_no hi
    rw [fi_some, List.any_eq_true]
    exact ⟨m, hm, by simp [pOf, e1]⟩
  · intro hlt
    obtain ⟨e, hp⟩ := incOf_some h (List.getElem?_eq_getElem hlt)
    omega
theorem leaveB_iff {V : Vw} (h : Ok V) (by_ node : Int) : leaveB V by_ node = true ↔ incOf V by_ ≠ 0 ∧ incOf V node ≠ 0 ∧ by_ ≠ node ∧ V.epoch < 1099511627776 ∧ V.dead.length < 20 ∧ V.nodes < 2 * ((V.mem.length : Int) - 1) := by
  rw [inc_any h, inc_any h]
  unfold leaveB turnsB
  rw [(ok_iff V).2 h, ← fi_some V.mem (pOf node)]
  simp only [Bool.and_eq_true, decide_eq_true_eq, bne_iff_ne, ne_eq, true_and]
  constructor
  · rintro ⟨⟨a, b⟩, c, d, e, f⟩
    exact ⟨e, d, c, a, b, f⟩
  · rintro ⟨e, d, c, a, b, f⟩
    exact ⟨⟨a, b⟩, c, d, e, f⟩
theorem leave_no {V : Vw} {by_ node : Int} (h : ¬ Ok V) : leaveB V by_ node = false := by
  unfold leaveB turnsB
  cases hc : chkB V with
  | true => exact absurd ((ok_iff V).1 hc) h
  | false => rfl
set_option maxRecDepth 100000 in
set_option maxHeartbeats 4000000 in
theorem RLeave_any (w : World) (x : Vx) (V : Vw) (h : IsV w x V) (hs : V.mem.length ≤ 1000) (hd : V.dead.length ≤ 1000) (by_ node : Int) :
    Calls Try.prog 26 #[vV x, .int .i64 by_, .int .i64 node] w fun e w' => ∃ x', e = .returned (.tuple #[vV x', .bool (leaveB V by_ node)]) ∧ IsV w' x' (leaveV V by_ node) ∧ Below w.heap.size w w' ∧ Far w.heap.size x x' := by
  have hml := h.mem.length
  have hdl := h.dead.length
  have hnn := h.nodes.symm
  have hee := h.epoch.symm
  obtain ⟨I, HI⟩ : ∃ I, Hid (incOf V by_ = I) := ⟨_, Lib.hid rfl⟩
  obtain ⟨J, HJ⟩ : ∃ I, Hid (incOf V node = I) := ⟨_, Lib.hid rfl⟩
  go_enter Try.func26, Try.ntmps26
  go_upto_region 1 with (fail)
  obtain ⟨w1, Hw1⟩ : ∃ w1, Hid ((w.alloc (.cells (vC x) 25)).alloc (.cells (vC noVx) 25) = w1) := ⟨_, Lib.hid rfl⟩
  obtain ⟨b, Hb⟩ : ∃ b, Hid (w.heap.size = b) := ⟨_, Lib.hid rfl⟩
  have HA : Hid (BoxV w1 b x) := Lib.hid (by rw [← Hw1.out, ← Hb.out]; exact (BoxV.new w x).below ((Below.refl _ _).alloc (Nat.le_refl _) _))
  have HR : Hid (BoxV w1 (b + 1) noVx) := Lib.hid (by
    have := BoxV.new (w.alloc (.cells (vC x) 25)) noVx
    rw [Hw1.out] at this
    simpa [Hb.out] using this)
  have HB1 : Hid (Below b w w1) := Lib.hid (by rw [← Hb.out, ← Hw1.out]; exact balloc ((Below.refl _ _).alloc (Nat.le_refl _) _) _)
  have HV1 : Hid (IsV w1 x V) := Lib.hid (h.below (by rw [Hb.out]; exact HB1.out))
  have Hh := Lib.hid h
  clear h
  rw [show ((w.alloc (.cells #[.int .i64 x.nodes, .int .i64 x.epoch, .slice x.mA x.mn x.mc, .slice x.dA x.dn x.dc, .slice x.iA x.ir x.ic] 25)).alloc (.cells #[.int .i64 0, .int .i64 0, .slice none 0 0, .slice none 0 0, .slice none 0 0] 25)) = w1 from Hw1.out, Hb.out]
  obtain ⟨v0, v1, v2, v3, v4⟩ := HA.out.cells
  go_wp2_with fail
  refine (RInc_any w1 x V HV1.out by_).mono ?_
  rw [HI.out]
  rintro e w2 ⟨rfl, b2⟩
  have HB2 : Hid (Below b w w2) := Lib.hid (HB1.out.trans (b2.mono (Nat.le_of_lt HA.out.lt)))
  have HA2 := Lib.hid (HA.out.below b2)
  have HR2 := Lib.hid (HR.out.below b2)
  clear b2 v0 v1 v2 v3 v4
  obtain ⟨v0, v1, v2, v3, v4⟩ := HA2.out.cells
  go_wp2_with fail
  refine (RInc_any w2 x V (Hh.out.below (by rw [Hb.out]; exact HB2.out)) node).mono ?_
  rw [HJ.out]
  rintro e w3 ⟨rfl, b3⟩
  have HB3 : Hid (Below b w w3) := Lib.hid (HB2.out.trans (b3.mono (Nat.le_of_lt HA2.out.lt)))
  have HA3 := Lib.hid (HA2.out.below b3)
  have HR3 := Lib.hid (HR2.out.below b3)
  clear b3 v0 v1 v2 v3 v4
  obtain ⟨v0, v1, v2, v3, v4⟩ := HA3.out.cells
  go_wp2_with fail
  refine (RCheck_any w3 x V (Hh.out.below (by rw [Hb.out]; exact HB3.out)) hs).mono ?_
  rintro e w4 ⟨rfl, b4⟩
  have HB4 : Hid (Below b w w4) := Lib.hid (HB3.out.trans (b4.mono (Nat.le_of_lt HA3.out.lt)))
  have HA4 := Lib.hid (HA3.out.below b4)
  have HR4 := Lib.hid (HR3.out.below b4)
  clear b4 v0 v1 v2 v3 v4
  by_cases hl : leaveB V by_ node = true
  · have hok : Ok V := Classical.byContradiction fun h => by rw [leave_no h] at hl; cases hl
    obtain ⟨i1, i2, i3, i4, i5, i6⟩ := (leaveB_iff hok by_ node).1 hl
    rw [HI.out] at i1
    rw [HJ.out] at i2
    have q1 : (chkE V != 0) = false := by rw [chkE_ok hok]; rfl
    have q2 : (I == 0) = false := beq_no i1
    have q3 : (J == 0) = false := beq_no i2
    have q4 : (by_ == node) = false := beq_no i3
    have q5 : ¬ 1099511627776 ≤ x.epoch := by omega
    have q6 : ¬ (20 : Int) ≤ (x.dn : Int) := by omega
    have q7 : ¬ 2 * ((x.mn : Int) - 1) ≤ x.nodes := by omega
    have hmn : (x.mn : Int) ≤ 1000 := by omega
    have Hl := Lib.hid hl
    have Hlv := Lib.hid (leave_eq hok hl)
    have he0 : 0 ≤ x.epoch := by have := hok.e0; omega
    have he1 : x.epoch < 1099511627776 := by omega
    clear i1 i2 i3 hl hok
    obtain ⟨v0, v1, v2, v3, v4⟩ := HA4.out.cells
    go_upto_region 6 with (fail)
    clear v0 v1 v2 v3 v4
    obtain ⟨g, Hg⟩ : ∃ g, Hid (w4.heap.size = g) := ⟨_, Lib.hid rfl⟩
    obtain ⟨w5, Hw5⟩ : ∃ u, Hid (w4.alloc (.cells (vC x) 25) = u) := ⟨_, Lib.hid rfl⟩
    have C5 : Hid (Cp w w5 b g x x V V) := Lib.hid (by rw [← Hw5.out, ← Hg.out]; exact Cp.start Hb.out Hh.out HA4.out HR4.out HB4.out)
    rw [show w4.alloc (.cells #[.int .i64 x.nodes, .int .i64 x.epoch, .slice x.mA x.mn x.mc, .slice x.dA x.dn x.dc, .slice x.iA x.ir x.ic] 25) = w5 from Hw5.out, Hg.out]
    obtain ⟨v0, v1, v2, v3, v4⟩ := C5.out.box.cells
    go_wp2_with fail
    refine (without_any w5 x.mA x.mn x.mc V.mem C5.out.org.mem hs node 0).mono ?_
    rintro e w6 ⟨A6, n6, c6, rfl, O6, b6⟩
    have HO6 := Lib.hid O6
    have Hl6 : Hid ((V.mem.filter (pWo node 0)).length ≤ 1000) := Lib.hid (by have := List.length_filter_le (pWo node 0) V.mem; omega)
    have C6 := Lib.hid (C5.out.to b6)
    clear O6 b6 v0 v1 v2 v3 v4
    obtain ⟨v0, v1, v2, v3, v4⟩ := C6.out.box.cells
    go_wp2_with fail
    refine (unready_any w6 A6 n6 c6 _ HO6.out.isL Hl6.out).mono ?_
    rintro e w7 ⟨A7, n7, c7, rfl, O7, b7⟩
    have HO7 := Lib.hid O7
    have b7h := Lib.hid b7
    have C7 := Lib.hid (C6.out.mem b7 O7)
    have g2 := (C6.out.to b7).cp.cells.2.2.1
    have gf := (C6.out.to b7).cp.free 2
    clear O7 b7 v0 v1 v2 v3 v4
    go_upto_region 7 with (fail)
    clear g2 gf
    obtain ⟨w8, Hw8⟩ : ∃ u, Hid (w7.setCell ⟨g, 2, none⟩ (.slice A7 n7 c7) = u) := ⟨_, Lib.hid rfl⟩
    rw [Hw8.out] at C7 ⊢
    obtain ⟨v0, v1, v2, v3, v4⟩ := C7.out.box.cells
    go_wp2_with fail
    refine (put_r_any w8 x.dA x.dn x.dc V.dead C7.out.org.dead hd (node, J, false)).mono ?_
    rintro e w9 ⟨A9, n9, c9, rfl, O9, b9⟩
    have C9 := Lib.hid (C7.out.dead b9 O9)
    have g3 := (C7.out.to b9).cp.cells.2.2.2.1
    have gf := (C7.out.to b9).cp.free 3
    clear O9 b9 v0 v1 v2 v3 v4
    go_upto_region 8 with (fail)
    clear g3 gf
    obtain ⟨w10, Hw10⟩ : ∃ u, Hid (w9.setCell ⟨g, 3, none⟩ (.slice A9 n9 c9) = u) := ⟨_, Lib.hid rfl⟩
    rw [Hw10.out] at C9 ⊢
    obtain ⟨v0, v1, v2, v3, v4⟩ := C9.out.box.cells
    have C11 := Lib.hid (C9.out.epoch (x.epoch + 1))
    have g1 := C9.out.cp.cells.2.1
    have gf := C9.out.cp.free 1
    go_upto_region 9 with (fail)
    clear g1 gf v0 v1 v2 v3 v4
    obtain ⟨w11, Hw11⟩ : ∃ u, Hid (w10.setCell ⟨g, 1, none⟩ (.int .i64 (x.epoch + 1)) = u) := ⟨_, Lib.hid rfl⟩
    rw [Hw11.out] at C11 ⊢
    obtain ⟨y, Hy⟩ : ∃ y, Hid (({ x with mA := A7, mn := n7, mc := c7, dA := A9, dn := n9, dc := c9, epoch := x.epoch + 1 } : Vx) = y) := ⟨_, Lib.hid rfl⟩
    have C12 : Hid (Cp w w11 b g x y V (leaveD V node)) := Lib.hid (by
      rw [← Hy.out]
      have := C11.out
      unfold leaveD
      rw [HJ.out, hee]
      exact this)
    rw [Hlv.out] at C12
    clear C11
    obtain ⟨v0, v1, v2, v3, v4⟩ := C12.out.cp.cells
    obtain ⟨r0, r1, r2, r3, r4⟩ := C12.out.res.cells
    have f0 := C12.out.res.free 0
    have f1 := C12.out.res.free 1
    have f2 := C12.out.res.free 2
    have f3 := C12.out.res.free 3
    have f4 := C12.out.res.free 4
    go_wp2
    clear v0 v1 v2 v3 v4 r0 r1 r2 r3 r4 f0 f1 f2 f3 f4
    obtain ⟨s0, s1, s2, s3, s4⟩ := (setV_box C12.out.res y).cells
    exact bodyPost_ret (v := .tuple #[vV y, .bool true]) (by simp [results, Try.results26, go_sem, s0, s1, s2, s3, s4]) rfl ⟨y, by rw [Hl.out], C12.out.tell.1, C12.out.tell.2.1, C12.out.tell.2.2⟩
  · have hl2 : leaveB V by_ node = false := by simpa using hl
    have Hl := Lib.hid hl2
    have Hlv := Lib.hid (leave_not hl2)
    have hway : (chkE V != 0) = true ∨ ((chkE V != 0) = false ∧ (I == 0) = true) ∨ ((chkE V != 0) = false ∧ (I == 0) = false ∧ (J == 0) = true) ∨ ((chkE V != 0) = false ∧ (I == 0) = false ∧ (J == 0) = false ∧ (by_ == node) = true) ∨ ((chkE V != 0) = false ∧ (I == 0) = false ∧ (J == 0) = false ∧ (by_ == node) = false ∧ 1099511627776 ≤ x.epoch) ∨ ((chkE V != 0) = false ∧ (I == 0) = false ∧ (J == 0) = false ∧ (by_ == node) = false ∧ ¬ 1099511627776 ≤ x.epoch ∧ (20 : Int) ≤ (x.dn : Int)) ∨ ((chkE V != 0) = false ∧ (I == 0) = false ∧ (J == 0) = false ∧ (by_ == node) = false ∧ ¬ 1099511627776 ≤ x.epoch ∧ ¬ (20 : Int) ≤ (x.dn : Int) ∧ 2 * ((x.mn : Int) - 1) ≤ x.nodes) := by
      cases hc : chkB V with
      | false => exact .inl (by simp [chkE, hc])
      | true =>
        have hok := (ok_iff V).1 hc
        have q1 : (chkE V != 0) = false := by rw [chkE_ok hok]; rfl
        refine .inr ?_
        by_cases a1 : I = 0
        · exact .inl ⟨q1, beq_yes a1⟩
        · refine .inr ?_
          by_cases a2 : J = 0
          · exact .inl ⟨q1, beq_no a1, beq_yes a2⟩
          · refine .inr ?_
            by_cases a3 : by_ = node
            · exact .inl ⟨q1, beq_no a1, beq_no a2, beq_yes a3⟩
            · refine .inr ?_
              by_cases a4 : 1099511627776 ≤ x.epoch
              · exact .inl ⟨q1, beq_no a1, beq_no a2, beq_no a3, a4⟩
              · refine .inr ?_
                by_cases a5 : (20 : Int) ≤ (x.dn : Int)
                · exact .inl ⟨q1, beq_no a1, beq_no a2, beq_no a3, a4, a5⟩
                · refine .inr ⟨q1, beq_no a1, beq_no a2, beq_no a3, a4, a5, ?_⟩
                  refine Classical.byContradiction fun a6 => hl ((leaveB_iff hok by_ node).2 ⟨by rw [HI.out]; exact a1, by rw [HJ.out]; exact a2, a3, by omega, by omega, by omega⟩)
    have hmn : (x.mn : Int) ≤ 1000 := by omega
    clear hl hl2
    rcases hway with q1 | ⟨q1, q2⟩ | ⟨q1, q2, q3⟩ | ⟨q1, q2, q3, q4⟩ | ⟨q1, q2, q3, q4, q5⟩ | ⟨q1, q2, q3, q4, q5, q6⟩ | ⟨q1, q2, q3, q4, q5, q6, q7⟩
    all_goals
      obtain ⟨v0, v1, v2, v3, v4⟩ := HA4.out.cells
      obtain ⟨r0, r1, r2, r3, r4⟩ := HR4.out.cells
      have f0 := HR4.out.free 0
      have f1 := HR4.out.free 1
      have f2 := HR4.out.free 2
      have f3 := HR4.out.free 3
      have f4 := HR4.out.free 4
      go_wp2
      clear v0 v1 v2 v3 v4 r0 r1 r2 r3 r4 f0 f1 f2 f3 f4
      obtain ⟨s0, s1, s2, s3, s4⟩ := (setV_box HR4.out x).cells
      have HBe : Hid (Below w.heap.size w (setV w4 (b + 1) x)) := Lib.hid (by rw [Hb.out]; exact (setV_mod _ _ _).below HB4.out (Nat.le_of_lt HA4.out.lt) (fun i e => by rw [show i = b + 1 from e]; omega))
      exact bodyPost_ret (v := .tuple #[vV x, .bool false]) (by simp [results, Try.results26, go_sem, s0, s1, s2, s3, s4]) rfl ⟨x, by rw [Hl.out], by rw [Hlv.out]; exact Hh.out.below HBe.out, HBe.out, Far.refl _ _⟩
end Go.Proofs.Ytfdbkmncgngkjaa
