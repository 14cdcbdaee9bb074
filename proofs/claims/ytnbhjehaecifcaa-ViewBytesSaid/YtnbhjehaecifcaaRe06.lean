
/- A view's copy that the document changes field by field; its Leave. -/
import Derived.Test.YtnbhjehaecifcaaRd06
namespace Go.Proofs.Ytnbhjehaecifcaa
open Go.RowKit

theorem IsI.kept {S : Nat → Prop} {w w' : World} {A : Option Addr} {n c : Nat} {l : List Int} (h : IsI w A n c l) (m : Mod S w w') (hs : 0 < n → ∀ g, blk (.slice A n c) = some g → ¬ S g) : IsI w' A n c l :=
  ⟨h.length, h.le, h.max, fun h0 => by
    obtain ⟨g, off, e, hg, hc⟩ := h.cells h0
    subst e
    have hn := hs h0 g rfl
    exact ⟨g, off, rfl, Nat.lt_of_lt_of_le hg m.size, fun i q hq => (m.cell (p := ⟨g, off + i, none⟩) hg hn).trans (hc i q hq)⟩, h.nil⟩
/-- The document's copy y of the view x: the view lies in box b, the result in b + 1, the copy in g. -/
structure Cp (w0 w : World) (b g : Nat) (x y : Vx) (V V' : Vw) : Prop where
  size : w0.heap.size = b
  org0 : IsV w0 x V
  box : BoxV w b x
  res : BoxV w (b + 1) noVx
  cp : BoxV w g y
  isV : IsV w y V'
  awM : 0 < y.mn → ∀ h, blk (mS y) = some h → h ≠ g ∧ h ≠ b + 1
  awD : 0 < y.dn → ∀ h, blk (dS y) = some h → h ≠ g ∧ h ≠ b + 1
  awI : 0 < y.ir → ∀ h, blk (iS y) = some h → h ≠ g ∧ h ≠ b + 1
  below : Below b w0 w
  gb : b + 1 < g
  far : Far b x y
section
variable {w0 w w1 : World} {b g : Nat} {x y : Vx} {V V' : Vw}
theorem Cp.org (h : Cp w0 w b g x y V V') : IsV w x V := h.org0.below (by rw [h.size]; exact h.below)
theorem Cp.to (h : Cp w0 w b g x y V V') (m : Below w.heap.size w w1) : Cp w0 w1 b g x y V V' :=
  ⟨h.size, h.org0, h.box.below m, h.res.below m, h.cp.below m, h.isV.below m, h.awM, h.awD, h.awI, h.below.trans (m.mono (Nat.le_of_lt h.box.lt)), h.gb, h.far⟩
theorem IsL.lowB {w : World} {A : Option Addr} {n c : Nat} {l : List Mb} (h : IsL w A n c l) (h0 : 0 < n) : ∀ g, blk (.slice A n c) = some g → g < w.heap.size := fun g hg => by
  obtain ⟨g', off, e, hl, _⟩ := h.cells h0
  subst e
  have e2 : g' = g := by simpa [blk] using hg
  omega
theorem IsI.lowB {w : World} {A : Option Addr} {n c : Nat} {l : List Int} (h : IsI w A n c l) (h0 : 0 < n) : ∀ g, blk (.slice A n c) = some g → g < w.heap.size := fun g hg => by
  obtain ⟨g', off, e, hl, _⟩ := h.cells h0
  subst e
  have e2 : g' = g := by simpa [blk] using hg
  omega
theorem Cp.start (hs : w0.heap.size = b) (h0 : IsV w0 x V) (hA : BoxV w b x) (hR : BoxV w (b + 1) noVx) (hB : Below b w0 w) :
    Cp w0 (w.alloc (.cells (vC x) 25)) b w.heap.size x x V V := by
  have m : Below w.heap.size w (w.alloc (.cells (vC x) 25)) := balloc (Below.refl _ _) _
  have hb := hA.lt
  have hr := hR.lt
  have hB' := hB.trans (m.mono (Nat.le_of_lt hb))
  exact ⟨hs, h0, hA.below m, hR.below m, BoxV.new w x, h0.below (by rw [hs]; exact hB'), fun hn h hh => by have := h0.mem.lowB hn h hh; exact ⟨by omega, by omega⟩,
    fun hn h hh => by have := h0.dead.lowB hn h hh; exact ⟨by omega, by omega⟩, fun hn h hh => by have := h0.incs.lowB hn h hh; exact ⟨by omega, by omega⟩, hB', by omega, Far.refl _ _⟩
theorem Cp.mem (h : Cp w0 w b g x y V V') (m : Below w.heap.size w w1) {A : Option Addr} {n c : Nat} {l : List Mb} (o : OwnL w1 w.heap.size A n c l) : Cp w0 (w1.setCell ⟨g, 2, none⟩ (.slice A n c)) b g x { y with mA := A, mn := n, mc := c } V { V' with mem := l } := by
  have k := h.to m
  have e : Mod (· = g) w1 (w1.setCell ⟨g, 2, none⟩ (.slice A n c)) := mod_cell w1 ⟨g, 2, none⟩ _
  have hgb := h.gb
  have hnew : ∀ i, blk (.slice A n c) = some i → i ≠ g ∧ i ≠ b + 1 := fun i hi => by have := o.new i hi; have := h.cp.lt; have := h.res.lt; exact ⟨by omega, by omega⟩
  refine ⟨h.size, h.org0, k.box.kept e (by omega), k.res.kept e (by omega), k.cp.put 2 _ _ rfl, ⟨h.isV.nodes, h.isV.epoch, o.isL.kept e (fun _ i hi => (hnew i hi).1), k.isV.dead.kept e (fun hn i hi => (h.awD hn i hi).1), k.isV.incs.kept e (fun hn i hi => (h.awI hn i hi).1)⟩, fun _ i hi => hnew i hi, h.awD, h.awI, e.below k.below (Nat.le_of_lt k.box.lt) (fun i hi => by rw [show i = g from hi]; omega), h.gb, ⟨FarS.new (fun i hi => by have := o.new i hi; have := h.box.lt; omega), h.far.dead, h.far.incs⟩⟩
theorem Cp.dead (h : Cp w0 w b g x y V V') (m : Below w.heap.size w w1) {A : Option Addr} {n c : Nat} {l : List Mb} (o : OwnL w1 w.heap.size A n c l) : Cp w0 (w1.setCell ⟨g, 3, none⟩ (.slice A n c)) b g x { y with dA := A, dn := n, dc := c } V { V' with dead := l } := by
  have k := h.to m
  have e : Mod (· = g) w1 (w1.setCell ⟨g, 3, none⟩ (.slice A n c)) := mod_cell w1 ⟨g, 3, none⟩ _
  have hgb := h.gb
  have hnew : ∀ i, blk (.slice A n c) = some i → i ≠ g ∧ i ≠ b + 1 := fun i hi => by have := o.new i hi; have := h.cp.lt; have := h.res.lt; exact ⟨by omega, by omega⟩
  refine ⟨h.size, h.org0, k.box.kept e (by omega), k.res.kept e (by omega), k.cp.put 3 _ _ rfl, ⟨h.isV.nodes, h.isV.epoch, k.isV.mem.kept e (fun hn i hi => (h.awM hn i hi).1), o.isL.kept e (fun _ i hi => (hnew i hi).1), k.isV.incs.kept e (fun hn i hi => (h.awI hn i hi).1)⟩, h.awM, fun _ i hi => hnew i hi, h.awI, e.below k.below (Nat.le_of_lt k.box.lt) (fun i hi => by rw [show i = g from hi]; omega), h.gb, ⟨h.far.mem, FarS.new (fun i hi => by have := o.new i hi; have := h.box.lt; omega), h.far.incs⟩⟩
theorem Cp.epoch (h : Cp w0 w b g x y V V') (n : Int) : Cp w0 (w.setCell ⟨g, 1, none⟩ (.int .i64 n)) b g x { y with epoch := n } V { V' with epoch := n } := by
  have e : Mod (· = g) w (w.setCell ⟨g, 1, none⟩ (.int .i64 n)) := mod_cell w ⟨g, 1, none⟩ _
  have hgb := h.gb
  exact ⟨h.size, h.org0, h.box.kept e (by omega), h.res.kept e (by omega), h.cp.put 1 _ _ rfl, ⟨h.isV.nodes, rfl, h.isV.mem.kept e (fun hn i hi => (h.awM hn i hi).1), h.isV.dead.kept e (fun hn i hi => (h.awD hn i hi).1), h.isV.incs.kept e (fun hn i hi => (h.awI hn i hi).1)⟩, h.awM, h.awD, h.awI, e.below h.below (Nat.le_of_lt h.box.lt) (fun i hi => by rw [show i = g from hi]; omega), h.gb, ⟨h.far.mem, h.far.dead, h.far.incs⟩⟩
/-- The copy is told. -/
theorem Cp.tell (h : Cp w0 w b g x y V V') : IsV (setV w (b + 1) y) y V' ∧ Below w0.heap.size w0 (setV w (b + 1) y) ∧ Far w0.heap.size x y := by
  have e := setV_mod w (b + 1) y
  refine ⟨⟨h.isV.nodes, h.isV.epoch, h.isV.mem.kept e (fun hn i hi => (h.awM hn i hi).2), h.isV.dead.kept e (fun hn i hi => (h.awD hn i hi).2), h.isV.incs.kept e (fun hn i hi => (h.awI hn i hi).2)⟩, ?_⟩
  rw [h.size]
  refine ⟨?_, h.far⟩
  exact e.below h.below (Nat.le_of_lt h.box.lt) (fun i hi => by rw [show i = b + 1 from hi]; omega)
end
theorem inc_any {V : Vw} (h : Ok V) (node : Int) : incOf V node ≠ 0 ↔ V.mem.any (pOf node) = true := by
  rw [← fi_some]
  constructor
  · intro hi
    obtain ⟨m, hm, e1, _⟩ := incOf_no hi
    rw [fi_some, List.any_eq_true]
    exact ⟨m, hm, by simp [pOf, e1]⟩
  · intro hlt
    obtain ⟨e, hp⟩ := incOf_some h (List.getElem?_eq_getElem hlt)
    omega
theorem leaveB_iff {V : Vw} (h : Ok V) (by_ node : Int) : leaveB V by_ node = true ↔ incOf V by_ ≠ 0 ∧ incOf V node ≠ 0 ∧ by_ ≠ node ∧ V.epoch < 1099511627776 ∧ V.dead.length < 20 ∧ V.nodes < 2 * ((V.mem.length : Int) - 1) := by
  rw [inc_any h, inc_any h]
  unfold leaveB turnsB
  rw [(ok_iff V).2 h, ← fi_some V.mem (pOf node)]
  simp only [Bool.and_eq_true, decide_eq_true_eq, bne_iff_ne, ne_eq, true_and]
  constructor
  · rintro ⟨⟨a, b⟩, c, d, e, f⟩
    exact ⟨e, d, c, a, b, f⟩
  · rintro ⟨e, d, c, a, b, f⟩
    exact ⟨⟨a, b⟩, c, d, e, f⟩
theorem leave_no {V : Vw} {by_ node : Int} (h : ¬ Ok V) : leaveB V by_ node = false := by
  unfold leaveB turnsB
  cases hc : chkB V with
  | true => exact absurd ((ok_iff V).1 hc) h
  | false => rfl
end Go.Proofs.Ytnbhjehaecifcaa
