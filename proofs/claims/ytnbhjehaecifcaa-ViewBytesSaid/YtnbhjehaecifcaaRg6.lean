
/- The document's Ready. -/
import Derived.Test.YtnbhjehaecifcaaRf6
namespace Go.Proofs.Ytnbhjehaecifcaa
open Go.RowKit

def rd (node : Int) (m : Mb) : Mb := if m.1 == node && !m.2.2 then (m.1, m.2.1, true) else m
def pRd (node : Int) (m : Mb) : Bool := m.1 == node && !m.2.2
theorem rd_yes {node : Int} {m : Mb} (h : pRd node m = true) : rd node m = (m.1, m.2.1, true) := if_pos h
theorem rd_no {node : Int} {m : Mb} (h : pRd node m = false) : rd node m = m := if_neg (by unfold pRd at h; rw [h]; decide)
theorem ready_at {V : Vw} (h : Ok V) {node inc : Int} (hi : incOf V node = inc) (h1 : 1 ≤ inc) :
    ∃ i m, i = V.mem.findIdx (pIs node inc) ∧ V.mem[i]? = some m ∧ m.1 = node ∧ m.2.1 = inc ∧ ∀ (j : Nat) (q : Mb), V.mem[j]? = some q → j ≠ i → q.1 ≠ node := by
  obtain ⟨m0, hm0, e0, e1⟩ := incOf_no (V := V) (node := node) (by omega)
  have hlt : V.mem.findIdx (pIs node inc) < V.mem.length := List.findIdx_lt_length_of_exists ⟨m0, hm0, by simp [pIs, e0, e1, hi]⟩
  have hm := List.getElem?_eq_getElem hlt
  obtain ⟨a1, a2⟩ := is_at hm
  refine ⟨_, _, rfl, hm, a1, a2, fun j q hq hj e => ?_⟩
  obtain ⟨hjl, hjq⟩ := List.getElem?_eq_some_iff.1 hq
  have hp := List.pairwise_iff_getElem.1 h.mp
  rcases Nat.lt_or_gt_of_ne hj with hl | hl
  · have := hp j _ hjl hlt hl
    rw [hjq] at this
    omega
  · have := hp _ j hlt hjl hl
    rw [hjq] at this
    omega
theorem ready_any {V : Vw} (h : Ok V) {node inc : Int} (hi : incOf V node = inc) (h1 : 1 ≤ inc) : V.mem.any (pRd node) = readyB V node inc := by
  obtain ⟨i, m, e, hm, a1, a2, hu⟩ := ready_at h hi h1
  have hr : readyB V node inc = !m.2.2 := by
    unfold readyB
    rw [(ok_iff V).2 h, ← e, hm]
    rfl
  rw [hr]
  cases hx : m.2.2 with
  | false => exact List.any_eq_true.2 ⟨m, List.mem_of_getElem? hm, by simp [pRd, a1, hx]⟩
  | true =>
    refine Bool.eq_false_iff.2 fun ha => ?_
    obtain ⟨q, hq, hp⟩ := List.any_eq_true.1 ha
    obtain ⟨j, hj⟩ := List.mem_iff_getElem?.1 hq
    simp only [pRd, Bool.and_eq_true, beq_iff_eq, Bool.not_eq_true'] at hp
    by_cases hji : j = i
    · subst hji
      rw [hm] at hj
      cases hj
      rw [hx] at hp
      exact absurd hp.2 (by decide)
    · exact hu j q hj hji hp.1
theorem ready_map {V : Vw} (h : Ok V) {node inc : Int} (hi : incOf V node = inc) (h1 : 1 ≤ inc) (hb : readyB V node inc = true) : { V with mem := V.mem.map (rd node) } = readyV V node inc := by
  obtain ⟨i, m, e, hm, a1, a2, hu⟩ := ready_at h hi h1
  obtain ⟨m', hm', hf, ev⟩ := ready_parts hb
  rw [← e, hm] at hm'
  cases hm'
  rw [ev, ← e]
  have : V.mem.map (rd node) = V.mem.set i (m.1, m.2.1, true) := by
    refine List.ext_getElem? fun j => ?_
    rw [List.getElem?_map, List.getElem?_set]
    by_cases hji : i = j
    · subst hji
      rw [hm, if_pos rfl, if_pos (List.getElem?_eq_some_iff.1 hm).1]
      exact congrArg some (rd_yes (by simp [pRd, a1, hf]))
    · rw [if_neg hji]
      cases hq : V.mem[j]? with
      | none => rfl
      | some q => exact congrArg some (rd_no (by simp [pRd, hu j q hq (fun e => hji e.symm)]))
  rw [this]
theorem ready_no {V : Vw} {node inc : Int} (hb : readyB V node inc = true) : Ok V ∧ 1 ≤ inc ∧ incOf V node = inc := by
  have hok : Ok V := by
    simp only [readyB, Bool.and_eq_true] at hb
    exact (ok_iff V).1 hb.1
  obtain ⟨m, hm, _, _⟩ := ready_parts hb
  obtain ⟨a1, a2⟩ := is_at hm
  have hmem := List.mem_of_getElem? hm
  have := hok.mm m hmem
  have h2 := incOf_mem hok.mp hmem
  rw [a1, a2] at h2
  exact ⟨hok, by omega, h2⟩
section
variable {w0 w w1 w2 : World} {b g : Nat} {x : Vx} {V : Vw}
theorem Cp.mem0 {y : Vx} {V' : Vw} (h : Cp w0 w b g x y V V') : Cp w0 (w.setCell ⟨g, 2, none⟩ (.slice none 0 0)) b g x { y with mA := none, mn := 0, mc := 0 } V { V' with mem := [] } := by
  have e : Mod (· = g) w (w.setCell ⟨g, 2, none⟩ (.slice none 0 0)) := mod_cell w ⟨g, 2, none⟩ _
  have hgb := h.gb
  exact ⟨h.size, h.org0, h.box.kept e (by omega), h.res.kept e (by omega), h.cp.put 2 _ _ rfl, ⟨h.isV.nodes, h.isV.epoch, ⟨rfl, Nat.le_refl _, Nat.zero_le _, fun h => absurd h (Nat.lt_irrefl _), fun _ => rfl⟩, h.isV.dead.kept e (fun hn i hi => (h.awD hn i hi).1), h.isV.incs.kept e (fun hn i hi => (h.awI hn i hi).1)⟩, fun h => absurd h (Nat.lt_irrefl _), h.awD, h.awI, e.below h.below (Nat.le_of_lt h.box.lt) (fun i hi => by rw [show i = g from hi]; omega), h.gb, ⟨fun _ h => absurd h (Nat.lt_irrefl _), h.far.dead, h.far.incs⟩⟩
theorem Cp.app {A : Option Addr} {k c cap : Nat} {q : Addr} {l : List Mb} {u : Mb} (h : Cp w0 w b g x { x with mA := A, mn := k, mc := c } V { V with mem := l }) (o : OwnL w (g + 1) A k c l) (m1 : Below w.heap.size w w1)
    (m2 : Mod (fun i => blk (.slice A k c) = some i) w1 w2) (r : Row w2 3 (.slice (some q) (k + 1) cap) (k + 1) (mcs l ++ mb1 u)) (hb : blk (.slice (some q) (k + 1) cap) = blk (.slice A k c) ∨ ∃ g', blk (.slice (some q) (k + 1) cap) = some g' ∧ w1.heap.size ≤ g') :
    Cp w0 (w2.setCell ⟨g, 2, none⟩ (.slice (some q) (k + 1) cap)) b g x { x with mA := some q, mn := k + 1, mc := cap } V { V with mem := l ++ [u] } ∧ OwnL (w2.setCell ⟨g, 2, none⟩ (.slice (some q) (k + 1) cap)) (g + 1) (some q) (k + 1) cap (l ++ [u]) := by
  have k1 := h.to m1
  have hgb := h.gb
  have hcl := h.cp.lt
  have hs1 := m1.size
  have e : Mod (· = g) w2 (w2.setCell ⟨g, 2, none⟩ (.slice (some q) (k + 1) cap)) := mod_cell w2 ⟨g, 2, none⟩ _
  have o1 : OwnL w1 (g + 1) A k c l := ⟨o.row.later (S := fun _ => False) (Mod.of_below m1) (fun _ _ h => h), o.new⟩
  have o2 : OwnL w2 (g + 1) (some q) (k + 1) cap (l ++ [u]) := OwnL.more (w := w1) o1 (by omega) u r hb
  have o3 : OwnL (w2.setCell ⟨g, 2, none⟩ (.slice (some q) (k + 1) cap)) (g + 1) (some q) (k + 1) cap (l ++ [u]) := ⟨o2.row.later e (fun i hi ei => by have h1 := o2.new i hi; have h2 : i = g := ei; omega), o2.new⟩
  have far {P : Prop} (i : Nat) (hi : i ≤ g) (ei : blk (.slice A k c) = some i) : P := by have := o.new i ei; omega
  have c2 : BoxV w2 g { x with mA := A, mn := k, mc := c } := k1.cp.kept m2 (far g (Nat.le_refl _))
  have hd : 0 < x.dn → ∀ i, blk (dS x) = some i → i < g := fun hn i hi => by have := h.org0.dead.lowB hn i hi; have := h.size; omega
  have hi' : 0 < x.ir → ∀ i, blk (iS x) = some i → i < g := fun hn i hi => by have := h.org0.incs.lowB hn i hi; have := h.size; omega
  refine ⟨⟨h.size, h.org0, (k1.box.kept m2 (far b (by omega))).kept e (by omega), (k1.res.kept m2 (far (b + 1) (by omega))).kept e (by omega), c2.put 2 _ _ rfl,
    ⟨h.isV.nodes, h.isV.epoch, o3.isL, (k1.isV.dead.kept m2 (fun hn i hi => far i (Nat.le_of_lt (hd hn i hi)))).kept e (fun hn i hi => (h.awD hn i hi).1), (k1.isV.incs.kept m2 (fun hn i hi => far i (Nat.le_of_lt (hi' hn i hi)))).kept e (fun hn i hi => (h.awI hn i hi).1)⟩, fun _ i hi => ?_, h.awD, h.awI, ?_, h.gb, ⟨FarS.new (fun i hi => by have := o3.new i hi; omega), h.far.dead, h.far.incs⟩⟩, o3⟩
  · have := o3.new i hi
    exact ⟨by omega, by omega⟩
  · have hb1 := k1.box.lt
    have hs2 := m2.size
    exact e.below (m2.below k1.below (Nat.le_of_lt hb1) (fun i ei => by have := o.new i ei; omega)) (by omega) (fun i hi => by rw [show i = g from hi]; omega)
end
end Go.Proofs.Ytnbhjehaecifcaa
