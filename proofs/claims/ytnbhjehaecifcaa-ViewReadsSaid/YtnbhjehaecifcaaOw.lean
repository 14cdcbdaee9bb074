/- A view of a call's own, in a block of its own: how it is written. -/
import Derived.Test.YtnbhjehaecifcaaChk
import Derived.Test.YtnbhjehaecifcaaRowAny
namespace Go.Proofs.Ytnbhjehaecifcaa
open Go.RowKit

def mb1 (m : Mb) : List Value := [.int .i64 m.1, .int .i64 m.2.1, .bool m.2.2]
def mcs : List Mb → List Value
  | [] => []
  | m :: l => mb1 m ++ mcs l
theorem mcs_length : ∀ l, (mcs l).length = l.length * 3
  | [] => rfl
  | m :: l => by rw [mcs, List.length_append, mcs_length l, List.length_cons]; simp [mb1]; omega
theorem mcs_append : ∀ l k, mcs (l ++ k) = mcs l ++ mcs k
  | [], _ => rfl
  | m :: l, k => by simp [mcs, mcs_append l k]
theorem mcs_one (m : Mb) : mcs [m] = mb1 m := by simp [mcs]
theorem mcs_get : ∀ (l : List Mb) (i : Nat) (m : Mb), l[i]? = some m → (mcs l)[i * 3]? = some (.int .i64 m.1) ∧ (mcs l)[i * 3 + 1]? = some (.int .i64 m.2.1) ∧ (mcs l)[i * 3 + 2]? = some (.bool m.2.2)
  | [], _, _, h => by simp at h
  | q :: l, 0, m, h => by
    simp at h
    subst h
    exact ⟨rfl, rfl, rfl⟩
  | q :: l, i + 1, m, h => by
    have := mcs_get l i m (by simpa using h)
    rw [show (i + 1) * 3 = i * 3 + 1 + 1 + 1 by omega]
    exact this
theorem mcs_one' : ∀ (l : List Mb), ∀ u ∈ mcs l, u.oneCell' = true
  | [], u, hu => by simp [mcs] at hu
  | m :: l, u, hu => by
    simp only [mcs, List.mem_append, mb1, List.mem_cons, List.not_mem_nil, or_false] at hu
    rcases hu with (rfl | rfl | rfl) | hu
    · rfl
    · rfl
    · rfl
    · exact mcs_one' l u hu
theorem mcs_ready : ∀ (l : List Mb) (k : Nat) (m : Mb) (r : Bool), l[k]? = some m → (mcs l).set (k * 3 + 2) (.bool r) = mcs (l.set k (m.1, m.2.1, r))
  | [], _, _, _, h => by simp at h
  | q :: l, 0, m, r, h => by
    simp at h
    subst h
    rfl
  | q :: l, k + 1, m, r, h => by
    have := mcs_ready l k m r (by simpa using h)
    rw [show (k + 1) * 3 + 2 = (k * 3 + 2) + 1 + 1 + 1 by omega]
    simp only [mcs, mb1, List.cons_append, List.nil_append, List.set_cons_succ, this]
def ics (l : List Int) : List Value := l.map fun z => .int .i64 z
theorem ics_length (l : List Int) : (ics l).length = l.length * 1 := by simp [ics]
theorem ics_get {l : List Int} {i : Nat} {z : Int} (h : l[i]? = some z) : (ics l)[i]? = some (.int .i64 z) := by simp [ics, h]
theorem ics_one (l : List Int) : ∀ u ∈ ics l, u.oneCell' = true := fun u hu => by
  simp only [ics, List.mem_map] at hu
  obtain ⟨z, _, rfl⟩ := hu
  rfl
theorem ics_set (l : List Int) (k : Nat) (z : Int) : (ics l).set k (.int .i64 z) = ics (l.set k z) := by simp [ics, List.map_set]

theorem infoM : (Try.prog.info? 43).map (fun i => (i.zero, i.size, i.bytes)) = some (some (.agg #[.int .i64 0, .int .i64 0, .bool false]), 3, 24) := by kernel_rfl
theorem infoI : (Try.prog.info? 3).map (fun i => (i.zero, i.size, i.bytes)) = some (some (.int .i64 0), 1, 8) := by kernel_rfl

/-! ### rows -/
abbrev RowM (w : World) (A : Option Addr) (n c : Nat) (l : List Mb) : Prop := Row w 3 (.slice A n c) n (mcs l)
abbrev RowI (w : World) (A : Option Addr) (n c : Nat) (l : List Int) : Prop := Row w 1 (.slice A n c) n (ics l)
theorem RowM.len {w : World} {A : Option Addr} {n c : Nat} {l : List Mb} (h : RowM w A n c l) : l.length = n := by
  have := h.length
  rw [mcs_length] at this
  omega
theorem RowI.len {w : World} {A : Option Addr} {n c : Nat} {l : List Int} (h : RowI w A n c l) : l.length = n := by
  have := h.length
  rw [ics_length] at this
  omega
theorem RowM.isL {w : World} {A : Option Addr} {n c : Nat} {l : List Mb} (h : RowM w A n c l) : IsL w A n c l := by
  have hl := RowM.len h
  rcases h.is with ⟨e, h0⟩ | ⟨g, off, cap, e, hg, h1, h2, hc, _⟩
  · injection e with e1 e2 e3
    subst e1 e3
    exact ⟨hl, by omega, by simp, fun h => by omega, fun _ => rfl⟩
  · injection e with e1 e2 e3
    subst e1 e3
    refine ⟨hl, h1, h2, fun _ => ⟨g, off, rfl, hg, fun i m hm => ?_⟩, fun h => by cases h⟩
    obtain ⟨p0, p1, p2⟩ := mcs_get l i m hm
    exact ⟨hc _ _ p0, by rw [Nat.add_assoc]; exact hc _ _ p1, by rw [Nat.add_assoc]; exact hc _ _ p2⟩
theorem RowI.isI {w : World} {A : Option Addr} {n c : Nat} {l : List Int} (h : RowI w A n c l) : IsI w A n c l := by
  have hl := RowI.len h
  rcases h.is with ⟨e, h0⟩ | ⟨g, off, cap, e, hg, h1, h2, hc, _⟩
  · injection e with e1 e2 e3
    subst e1 e3
    exact ⟨hl, by omega, by simp, fun h => by omega, fun _ => rfl⟩
  · injection e with e1 e2 e3
    subst e1 e3
    exact ⟨hl, h1, h2, fun _ => ⟨g, off, rfl, hg, fun i m hm => hc _ _ (ics_get hm)⟩, fun h => by cases h⟩
/-- One cell of a row written. -/
theorem Row.set {w : World} {size g off n cap : Nat} {xs : List Value} (h : Row w size (.slice (some ⟨g, off, none⟩) n cap) n xs) {j : Nat} (hj : j < n * size) (u : Value) :
    Row (w.setCell ⟨g, off + j, none⟩ u) size (.slice (some ⟨g, off, none⟩) n cap) n (xs.set j u) := by
  refine ⟨by rw [List.length_set]; exact h.length, ?_⟩
  rcases h.is with ⟨e, _⟩ | ⟨g', off', cap', e, hg, h1, h2, hc, hs, hf⟩
  · cases e
  · injection e with e _ ec
    injection e with e
    injection e with e1 e2
    subst e1 e2 ec
    refine .inr ⟨g, off, cap, rfl, by simpa [World.setCell] using hg, h1, h2, fun k v hv => ?_, fun k hk => ?_, fun k hk => by rw [World.frozen?_setCell]; exact hf k hk⟩
    · by_cases e : j = k
      · subst e
        have hlt : j < xs.length := by rw [h.length]; exact hj
        rw [List.getElem?_set_self hlt] at hv
        injection hv with hv
        subst hv
        exact set_same (hc j _ (List.getElem?_eq_getElem hlt))
      · rw [List.getElem?_set_ne e] at hv
        rw [World.cell?_setCell_other _ _ _ _ (fun h => by injection h with _ h; omega)]
        exact hc k v hv
    · rw [World.cell?_setCell_other _ _ _ _ (fun h => by injection h with _ h; omega)]
      exact hs k hk
theorem Row.cells' {w : World} {size g off n cap : Nat} {xs : List Value} (h : Row w size (.slice (some ⟨g, off, none⟩) n cap) n xs) : g < w.heap.size ∧ n ≤ cap ∧ cap ≤ maxLen ∧ (∀ j u, xs[j]? = some u → w.cell? ⟨g, off + j, none⟩ = some u) ∧ (∀ j, j < (cap - n) * size → (w.cell? ⟨g, off + n * size + j, none⟩).isSome = true) ∧ ∀ j, j < cap * size → w.frozen? ⟨g, off + j, none⟩ = false := by
  rcases h.is with ⟨e, _⟩ | ⟨g', off', cap', e, h⟩
  · cases e
  · injection e with e _ ec
    injection e with e
    injection e with e1 e2
    subst e1 e2 ec
    exact h

/-! ### a view's block, field by field -/
theorem BoxV.put {w : World} {b : Nat} {x : Vx} (h : BoxV w b x) (o : Nat) (u : Value) (x' : Vx) (e : (vC x).setIfInBounds o u = vC x') : BoxV (w.setCell ⟨b, o, none⟩ u) b x' := by
  obtain ⟨hlt, hk⟩ := Array.getElem?_eq_some_iff.1 h.blk
  refine ⟨?_⟩
  show (w.heap.modify b _)[b]? = _
  rw [Array.getElem?_eq_getElem (by rw [Array.size_modify]; exact hlt), Array.getElem_modify_self, hk, ← e]
  rfl
theorem BoxV.kept {w w' : World} {b : Nat} {x : Vx} (h : BoxV w b x) {S : Nat → Prop} (m : Mod S w w') (hs : ¬ S b) : BoxV w' b x := ⟨(m.block b h.lt hs).trans h.blk⟩
def noVx : Vx := ⟨0, 0, none, 0, 0, none, 0, 0, none, 0, 0⟩
@[reducible] def mS (x : Vx) : Value := .slice x.mA x.mn x.mc
@[reducible] def dS (x : Vx) : Value := .slice x.dA x.dn x.dc
@[reducible] def iS (x : Vx) : Value := .slice x.iA x.ir x.ic
/-- A view of a call's own, in block b; in block r something else lies. -/
structure Ow (w : World) (B b r : Nat) (x : Vx) (V : Vw) : Prop where
  nodes : x.nodes = V.nodes
  epoch : x.epoch = V.epoch
  box : BoxV w b x
  res : BoxV w r noVx
  mem : RowM w x.mA x.mn x.mc V.mem
  dead : RowM w x.dA x.dn x.dc V.dead
  incs : RowI w x.iA x.ir x.ic V.incs
  lt : B ≤ b
  ltr : B ≤ r
  br : b ≠ r
  newM : ∀ g, blk (mS x) = some g → B ≤ g ∧ g ≠ b ∧ g ≠ r
  newD : ∀ g, blk (dS x) = some g → B ≤ g ∧ g ≠ b ∧ g ≠ r
  newI : ∀ g, blk (iS x) = some g → B ≤ g ∧ g ≠ b ∧ g ≠ r
  md : ∀ g, blk (mS x) = some g → blk (dS x) = some g → False
  mi : ∀ g, blk (mS x) = some g → blk (iS x) = some g → False
  di : ∀ g, blk (dS x) = some g → blk (iS x) = some g → False
section
variable {w w' : World} {B b r : Nat} {x : Vx} {V : Vw}
theorem Ow.isV (h : Ow w B b r x V) : IsV w x V := ⟨h.nodes, h.epoch, h.mem.isL, h.dead.isL, h.incs.isI⟩
theorem Ow.below (h : Ow w B b r x V) (m : Below w.heap.size w w') : Ow w' B b r x V :=
  { h with
    box := h.box.below m
    res := h.res.below m
    mem := h.mem.later (Mod.of_below (S := fun _ => False) m) (fun _ _ => id)
    dead := h.dead.later (Mod.of_below (S := fun _ => False) m) (fun _ _ => id)
    incs := h.incs.later (Mod.of_below (S := fun _ => False) m) (fun _ _ => id) }
theorem mod_cell (w : World) (p : Addr) (u : Value) : Mod (· = p.block) w (w.setCell p u) := Mod.setCell (S := (· = p.block)) (Mod.refl _ w) (p := p) (.inl rfl) u
/-- A field of the view itself. -/
theorem Ow.num (h : Ow w B b r x V) (e : Int) : Ow (w.setCell ⟨b, 1, none⟩ (.int .i64 e)) B b r { x with epoch := e } { V with epoch := e } := by
  have m := mod_cell w ⟨b, 1, none⟩ (.int .i64 e)
  exact { h with
    epoch := rfl
    box := h.box.put 1 _ _ rfl
    res := h.res.kept m (fun e => h.br e.symm)
    mem := h.mem.later m (fun g hg e => (h.newM g hg).2.1 e)
    dead := h.dead.later m (fun g hg e => (h.newD g hg).2.1 e)
    incs := h.incs.later m (fun g hg e => (h.newI g hg).2.1 e) }
/-- Another list of members. -/
theorem Ow.memTo (h : Ow w B b r x V) (hB : B ≤ w.heap.size) (hb : Below w.heap.size w w') {A : Option Addr} {n c : Nat} {l : List Mb} (hr : RowM w' A n c l) (hblk : ∀ g, blk (.slice A n c) = some g → blk (mS x) = some g ∨ w.heap.size ≤ g) :
    Ow (w'.setCell ⟨b, 2, none⟩ (.slice A n c)) B b r { x with mA := A, mn := n, mc := c } { V with mem := l } := by
  have h' := h.below hb
  have m := mod_cell w' ⟨b, 2, none⟩ (.slice A n c)
  have hD : ∀ g, blk (dS x) = some g → g < w.heap.size := fun g hg => h.dead.blk_lt hg
  have hI : ∀ g, blk (iS x) = some g → g < w.heap.size := fun g hg => h.incs.blk_lt hg
  have hbl := h.box.lt
  have hrl := h.res.lt
  have hM : ∀ g, blk (.slice A n c) = some g → B ≤ g ∧ g ≠ b ∧ g ≠ r := fun g hg => by
    rcases hblk g hg with h1 | h1
    · exact h.newM g h1
    · exact ⟨by omega, by omega, by omega⟩
  exact { h' with
    box := h'.box.put 2 _ _ rfl
    res := h'.res.kept m (fun e => h.br e.symm)
    mem := hr.later m (fun g hg e => (hM g hg).2.1 e)
    dead := h'.dead.later m (fun g hg e => (h.newD g hg).2.1 e)
    incs := h'.incs.later m (fun g hg e => (h.newI g hg).2.1 e)
    newM := hM
    md := fun g h1 h2 => by
      rcases hblk g h1 with h3 | h3
      · exact h.md g h3 h2
      · have := hD g h2; omega
    mi := fun g h1 h2 => by
      rcases hblk g h1 with h3 | h3
      · exact h.mi g h3 h2
      · have := hI g h2; omega }
/-- Another list of the dead. -/
theorem Ow.deadTo (h : Ow w B b r x V) (hB : B ≤ w.heap.size) (hb : Below w.heap.size w w') {A : Option Addr} {n c : Nat} {l : List Mb} (hr : RowM w' A n c l) (hblk : ∀ g, blk (.slice A n c) = some g → blk (dS x) = some g ∨ w.heap.size ≤ g) :
    Ow (w'.setCell ⟨b, 3, none⟩ (.slice A n c)) B b r { x with dA := A, dn := n, dc := c } { V with dead := l } := by
  have h' := h.below hb
  have m := mod_cell w' ⟨b, 3, none⟩ (.slice A n c)
  have hD : ∀ g, blk (mS x) = some g → g < w.heap.size := fun g hg => h.mem.blk_lt hg
  have hI : ∀ g, blk (iS x) = some g → g < w.heap.size := fun g hg => h.incs.blk_lt hg
  have hbl := h.box.lt
  have hrl := h.res.lt
  have hM : ∀ g, blk (.slice A n c) = some g → B ≤ g ∧ g ≠ b ∧ g ≠ r := fun g hg => by
    rcases hblk g hg with h1 | h1
    · exact h.newD g h1
    · exact ⟨by omega, by omega, by omega⟩
  exact { h' with
    box := h'.box.put 3 _ _ rfl
    res := h'.res.kept m (fun e => h.br e.symm)
    dead := hr.later m (fun g hg e => (hM g hg).2.1 e)
    mem := h'.mem.later m (fun g hg e => (h.newM g hg).2.1 e)
    incs := h'.incs.later m (fun g hg e => (h.newI g hg).2.1 e)
    newD := hM
    md := fun g h1 h2 => by
      rcases hblk g h2 with h3 | h3
      · exact h.md g h1 h3
      · have := hD g h1; omega
    di := fun g h1 h2 => by
      rcases hblk g h1 with h3 | h3
      · exact h.di g h3 h2
      · have := hI g h2; omega }
/-- A member made ready, or not. -/
theorem Ow.ready (h : Ow w B b r x V) {g off k : Nat} {m : Mb} (hA : x.mA = some ⟨g, off, none⟩) (hm : V.mem[k]? = some m) (v : Bool) :
    Ow (w.setCell ⟨g, off + k * 3 + 2, none⟩ (.bool v)) B b r x { V with mem := V.mem.set k (m.1, m.2.1, v) } := by
  have hmm := h.mem
  rw [hA] at hmm
  have hk : k < x.mn := by rw [← RowM.len h.mem]; exact (List.getElem?_eq_some_iff.1 hm).1
  have hs := hmm.set (j := k * 3 + 2) (by omega) (.bool v)
  rw [mcs_ready _ _ _ _ hm, ← Nat.add_assoc] at hs
  have hg : blk (mS x) = some g := by rw [mS, hA]; rfl
  have mo := mod_cell w ⟨g, off + k * 3 + 2, none⟩ (.bool v)
  exact { h with
    box := h.box.kept mo (fun e => (h.newM g hg).2.1 e.symm)
    res := h.res.kept mo (fun e => (h.newM g hg).2.2 e.symm)
    mem := by rw [hA]; exact hs
    dead := h.dead.later mo (fun g' hg' e => h.md g hg (by rw [← show g' = g from e]; exact hg'))
    incs := h.incs.later mo (fun g' hg' e => h.mi g hg (by rw [← show g' = g from e]; exact hg')) }
/-- How often a node has joined. -/
theorem Ow.inc (h : Ow w B b r x V) {g off k : Nat} (hA : x.iA = some ⟨g, off, none⟩) (hk : k < V.incs.length) (z : Int) :
    Ow (w.setCell ⟨g, off + k, none⟩ (.int .i64 z)) B b r x { V with incs := V.incs.set k z } := by
  have hmm := h.incs
  rw [hA] at hmm
  have hk' : k < x.ir := by rw [← RowI.len h.incs]; exact hk
  have hs := hmm.set (j := k) (by omega) (.int .i64 z)
  rw [ics_set] at hs
  have hg : blk (iS x) = some g := by rw [iS, hA]; rfl
  have mo := mod_cell w ⟨g, off + k, none⟩ (.int .i64 z)
  exact { h with
    box := h.box.kept mo (fun e => (h.newI g hg).2.1 e.symm)
    res := h.res.kept mo (fun e => (h.newI g hg).2.2 e.symm)
    incs := by rw [hA]; exact hs
    mem := h.mem.later mo (fun g' hg' e => h.mi g' hg' (by rw [show g' = g from e]; exact hg))
    dead := h.dead.later mo (fun g' hg' e => h.di g' hg' (by rw [show g' = g from e]; exact hg)) }
end
end Go.Proofs.Ytnbhjehaecifcaa
