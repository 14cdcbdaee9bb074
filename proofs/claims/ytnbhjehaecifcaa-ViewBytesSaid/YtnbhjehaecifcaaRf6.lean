
/- The document's Join. -/
import Derived.Test.YtnbhjehaecifcaaRe06
namespace Go.Proofs.Ytnbhjehaecifcaa
open Go.RowKit

theorem infoJ : (Try.prog.info? 3).map (fun i => (i.zero, i.size, i.bytes)) = some (some (.int .i64 0), 1, 8) := by kernel_rfl
theorem own_isI {w : World} {B g n c : Nat} {l : List Int} (h : w.ownsRow B 3 1 (.slice (some ⟨g, 0, none⟩) n c) n (ics l)) : IsI w (some ⟨g, 0, none⟩) n c l := by
  have hl : l.length = n := by have := h.1; simpa [ics] using this
  have hh := h.2
  rcases hh with ⟨e, _⟩ | ⟨g', cap, cur, e, hb, hg, h1, h2, h3, h4⟩
  · cases e
  · have ec : c = cap := by injection e
    have eg : g = g' := by injection e with e; injection e with e; injection e
    subst ec eg
    refine ⟨hl, h1, h2, fun _ => ⟨g, 0, rfl, (Array.getElem?_eq_some_iff.1 hg).1, fun i z hz => ?_⟩, fun e => by cases e⟩
    have := World.ownsRow.cells h (g := g) rfl i (.int .i64 z) (by simp [ics, hz])
    rwa [Go.WideShapes.add_plain] at this
theorem app_incs {w : World} {A : Option Addr} {n c : Nat} {l : List Int} (h : IsI w A n c l) (h0 : 0 < n) (hs : n ≤ 100000) :
    ∃ g o c' w', (Builtin.append_ #[23, 23] 23 #[.slice none 0 0, .slice A n c]).run Try.prog w = .ok (.slice (some ⟨g, o, none⟩) n c') w' ∧ RowI w' (some ⟨g, o, none⟩) n c' l ∧ Below w.heap.size w w' ∧ w.heap.size ≤ g := by
  obtain ⟨v', w', hr, hrow, hm, hb⟩ := appIs (row_nil w 1) h (by omega)
  rw [Nat.zero_add, List.nil_append] at hrow
  have hB : Below w.heap.size w w' := hm.below (Below.refl _ _) (Nat.le_refl _) (fun g hg => by cases hg)
  have hh := hrow
  rcases hrow.is with ⟨_, e⟩ | ⟨g, o, c', e, _⟩
  · omega
  · subst e
    refine ⟨g, o, c', w', hr, hh, hB, ?_⟩
    rcases hb with e | ⟨g', e, hg⟩
    · cases e
    · have : g = g' := by simpa [blk] using e
      omega
section
variable {w0 w w1 : World} {b g : Nat} {x y : Vx} {V V' : Vw}
theorem Cp.incs0 (h : Cp w0 w b g x y V V') : Cp w0 (w.setCell ⟨g, 4, none⟩ (.slice none 0 0)) b g x { y with iA := none, ir := 0, ic := 0 } V { V' with incs := [] } := by
  have e : Mod (· = g) w (w.setCell ⟨g, 4, none⟩ (.slice none 0 0)) := mod_cell w ⟨g, 4, none⟩ _
  have hgb := h.gb
  exact ⟨h.size, h.org0, h.box.kept e (by omega), h.res.kept e (by omega), h.cp.put 4 _ _ rfl, ⟨h.isV.nodes, h.isV.epoch, h.isV.mem.kept e (fun hn i hi => (h.awM hn i hi).1), h.isV.dead.kept e (fun hn i hi => (h.awD hn i hi).1), ⟨rfl, Nat.le_refl _, Nat.zero_le _, fun h => absurd h (Nat.lt_irrefl _), fun _ => rfl⟩⟩, h.awM, h.awD, fun h => absurd h (Nat.lt_irrefl _), e.below h.below (Nat.le_of_lt h.box.lt) (fun i hi => by rw [show i = g from hi]; omega), h.gb, ⟨h.far.mem, h.far.dead, fun _ h => absurd h (Nat.lt_irrefl _)⟩⟩
theorem Cp.at4 (h : Cp w0 w b g x y V V') (A : Option Addr) (n c : Nat) : BoxV (w.setCell ⟨g, 4, none⟩ (.slice A n c)) g { y with iA := A, ir := n, ic := c } := h.cp.put 4 _ _ rfl
theorem Cp.row4 (h : Cp w0 w b g x y V V') {g' o n c : Nat} {l : List Int} (hg : w.heap.size ≤ g') (r : RowI w1 (some ⟨g', o, none⟩) n c l) :
    RowI (w1.setCell ⟨g, 4, none⟩ (.slice (some ⟨g', o, none⟩) n c)) (some ⟨g', o, none⟩) n c l := by
  have e1 : Mod (· = g) w1 (w1.setCell ⟨g, 4, none⟩ (.slice (some ⟨g', o, none⟩) n c)) := mod_cell w1 ⟨g, 4, none⟩ _
  have hcl := h.cp.lt
  exact r.later e1 (fun i hi e => by
    have e3 : g' = i := by simpa [blk] using hi
    have e4 : i = g := e
    omega)
theorem Cp.incs (h : Cp w0 w b g x y V V') (m : Below w.heap.size w w1) {g' o n c j : Nat} {l : List Int} {z : Int} (hg : w.heap.size ≤ g') (r : RowI w1 (some ⟨g', o, none⟩) n c l) (hj : j < n) :
    Cp w0 ((w1.setCell ⟨g, 4, none⟩ (.slice (some ⟨g', o, none⟩) n c)).setCell ⟨g', o + j, none⟩ (.int .i64 z)) b g x { y with iA := some ⟨g', o, none⟩, ir := n, ic := c } V { V' with incs := l.set j z } := by
  have k1 := h.to m
  have h4 : BoxV (w1.setCell ⟨g, 4, none⟩ (.slice (some ⟨g', o, none⟩) n c)) g { y with iA := some ⟨g', o, none⟩, ir := n, ic := c } := k1.at4 _ _ _
  have e1 : Mod (· = g) w1 (w1.setCell ⟨g, 4, none⟩ (.slice (some ⟨g', o, none⟩) n c)) := mod_cell w1 ⟨g, 4, none⟩ _
  have e2 : Mod (· = g') (w1.setCell ⟨g, 4, none⟩ (.slice (some ⟨g', o, none⟩) n c)) ((w1.setCell ⟨g, 4, none⟩ (.slice (some ⟨g', o, none⟩) n c)).setCell ⟨g', o + j, none⟩ (.int .i64 z)) := mod_cell _ ⟨g', o + j, none⟩ _
  have r2 := (h.row4 hg r).set (j := j) (by omega) (.int .i64 z)
  rw [ics_set] at r2
  have hgb := h.gb
  have hcl := h.cp.lt
  have hrl := h.res.lt
  have hbl := h.box.lt
  have lo {A : Option Addr} {n c : Nat} {l : List Mb} (q : IsL w A n c l) (h0 : 0 < n) : ∀ i, blk (.slice A n c) = some i → i ≠ g' := fun i hi => by have := q.lowB h0 i hi; omega
  refine ⟨h.size, h.org0, (k1.box.kept e1 (by omega)).kept e2 (by omega), (k1.res.kept e1 (by omega)).kept e2 (by omega), h4.kept e2 (by omega),
    ⟨h.isV.nodes, h.isV.epoch, (k1.isV.mem.kept e1 (fun hn i hi => (h.awM hn i hi).1)).kept e2 (fun hn i hi => lo h.isV.mem hn i hi), (k1.isV.dead.kept e1 (fun hn i hi => (h.awD hn i hi).1)).kept e2 (fun hn i hi => lo h.isV.dead hn i hi), RowI.isI r2⟩, h.awM, h.awD, fun _ i hi => ?_, ?_, h.gb, ⟨h.far.mem, h.far.dead, FarS.new (fun i hi => by
      have e3 : g' = i := by simpa [blk] using hi
      omega)⟩⟩
  · have e3 : g' = i := by simpa [blk] using hi
    exact ⟨by omega, by omega⟩
  · have hs1 : w1.heap.size = (w1.setCell ⟨g, 4, none⟩ (.slice (some ⟨g', o, none⟩) n c)).heap.size := by simp [World.setCell]
    have hb1 := k1.box.lt
    exact e2.below (e1.below k1.below (Nat.le_of_lt k1.box.lt) (fun i hi => by rw [show i = g from hi]; omega)) (by omega) (fun i hi => by rw [show i = g' from hi]; omega)
end
theorem join_no {V : Vw} {node : Int} (h : joinOk V node = false) : joinV V node = V ∧ joinN V node = 0 := by
  unfold joinV joinN
  rw [h]
  exact ⟨rfl, rfl⟩
end Go.Proofs.Ytnbhjehaecifcaa
