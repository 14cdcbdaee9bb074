/- Rows of claims of a call's own, by their cells: what is written into them, what is struck out of them. -/
import Derived.Test.YthpmodohfjjjcaaIdx9
import Derived.Lib.Overlaps
import Derived.Lib.AppendZerosOnto
import Derived.Laws.IdiomCopy
namespace Go.Proofs.Ythpmodohfjjjcaa
open Go.RowKit

/-- Room for so many claims, of which the first ones are these. -/
structure Cs (w : World) (g off cap : Nat) (l : List Cl) : Prop where
  lt : g < w.heap.size
  len : l.length ≤ cap
  max : cap ≤ maxLen
  cells : ∀ (i : Nat) (c : Cl), l[i]? = some c → w.cell? ⟨g, off + i * 2, none⟩ = some (.int .i64 c.1) ∧ w.cell? ⟨g, off + i * 2 + 1, none⟩ = some (.int .i64 c.2)
  there : ∀ j, j < cap * 2 → (w.cell? ⟨g, off + j, none⟩).isSome = true
  free : ∀ j, j < cap * 2 → w.frozen? ⟨g, off + j, none⟩ = false
def wfC (l : List Cl) : Prop := ∀ c ∈ l, (Lit.int .i64 c.1).wf = true ∧ (Lit.int .i64 c.2).wf = true
theorem Cs.later {S : Nat → Prop} {w w' : World} {g off cap : Nat} {l : List Cl} (h : Cs w g off cap l) (m : Mod S w w') (hs : ¬ S g) : Cs w' g off cap l := by
  refine ⟨Nat.lt_of_lt_of_le h.lt m.size, h.len, h.max, fun i c hc => ?_, fun j hj => ?_, fun j hj => ?_⟩
  · obtain ⟨a, b⟩ := h.cells i c hc
    exact ⟨(m.cell (p := ⟨g, off + i * 2, none⟩) h.lt hs).trans a, (m.cell (p := ⟨g, off + i * 2 + 1, none⟩) h.lt hs).trans b⟩
  · rw [m.cell (p := ⟨g, off + j, none⟩) h.lt hs]; exact h.there j hj
  · rw [m.frozen (p := ⟨g, off + j, none⟩) h.lt hs]; exact h.free j hj
theorem Cs.below {w w' : World} {g off cap : Nat} {l : List Cl} (h : Cs w g off cap l) (b : Below w.heap.size w w') : Cs w' g off cap l := h.later (Mod.of_below (S := fun _ => False) b) id
theorem Cs.take {w : World} {g off cap : Nat} {l : List Cl} (h : Cs w g off cap l) (k : Nat) : Cs w g off cap (l.take k) := by
  refine ⟨h.lt, Nat.le_trans (by rw [List.length_take]; omega) h.len, h.max, fun i c hc => h.cells i c ?_, h.there, h.free⟩
  rw [List.getElem?_take] at hc
  split at hc
  · exact hc
  · cases hc
theorem setCell_some {w : World} {a p : Addr} {v : Value} (h : (w.cell? p).isSome = true) : ((w.setCell a v).cell? p).isSome = true := by
  by_cases e : p = a
  · subst e
    obtain ⟨u, hu⟩ := Option.isSome_iff_exists.1 h
    rw [set_same hu]; rfl
  · rw [World.cell?_setCell_other _ _ _ _ (fun h => e h.symm)]; exact h
theorem Cs.set {w : World} {g off cap : Nat} {l : List Cl} (h : Cs w g off cap l) {i : Nat} (hi : i < l.length) (c : Cl) :
    Cs ((w.setCell ⟨g, off + i * 2, none⟩ (.int .i64 c.1)).setCell ⟨g, off + i * 2 + 1, none⟩ (.int .i64 c.2)) g off cap (l.set i c) := by
  have hl := h.len
  refine ⟨by simp [World.setCell]; exact h.lt, by rw [List.length_set]; exact h.len, h.max, fun k x hk => ?_, fun j hj => setCell_some (setCell_some (h.there j hj)), fun j hj => by rw [World.frozen?_setCell, World.frozen?_setCell]; exact h.free j hj⟩
  have hk0 : k < l.length := by have := (List.getElem?_eq_some_iff.1 hk).1; simpa using this
  by_cases e : k = i
  · subst e
    rw [List.getElem?_set_self hi] at hk
    obtain rfl := Option.some.inj hk
    obtain ⟨u0, h0⟩ := Option.isSome_iff_exists.1 (h.there (k * 2) (by omega))
    refine ⟨?_, ?_⟩
    · rw [World.cell?_setCell_other _ _ _ _ (fun e => by injection e with _ e; omega)]
      exact set_same h0
    · obtain ⟨u2, h2⟩ := Option.isSome_iff_exists.1 (setCell_some (a := ⟨g, off + k * 2, none⟩) (v := .int .i64 c.1) (h.there (k * 2 + 1) (by omega)))
      rw [← Nat.add_assoc] at h2
      exact set_same h2
  · rw [List.getElem?_set_ne (fun e2 => e e2.symm)] at hk
    obtain ⟨a, b⟩ := h.cells k x hk
    refine ⟨?_, ?_⟩
    · rw [World.cell?_setCell_other _ _ _ _ (fun e => by injection e with _ e; omega), World.cell?_setCell_other _ _ _ _ (fun e => by injection e with _ e; omega)]
      exact a
    · rw [World.cell?_setCell_other _ _ _ _ (fun e => by injection e with _ e; omega), World.cell?_setCell_other _ _ _ _ (fun e => by injection e with _ e; omega)]
      exact b
theorem cells_size (g : Nat) : ∀ (vs : List Value) (o : Nat) (u : World), (u.setCells g o vs).heap.size = u.heap.size
  | [], _, _ => rfl
  | x :: r, o, u => by show ((u.setCell _ _).setCells g (o + 1) r).heap.size = _; rw [cells_size]; simp [World.setCell]
theorem cells_mod (g : Nat) : ∀ (vs : List Value) (o : Nat) (u : World), Mod (· = g) u (u.setCells g o vs)
  | [], _, u => Mod.refl _ u
  | x :: r, o, u => (Mod.setCell (S := (· = g)) (Mod.refl _ u) (p := ⟨g, o, none⟩) (.inl rfl) x).trans (cells_mod g r (o + 1) _)
theorem cells_frozen (g : Nat) : ∀ (vs : List Value) (o : Nat) (u : World) (x : Addr), (u.setCells g o vs).frozen? x = u.frozen? x
  | [], _, _, _ => rfl
  | y :: r, o, u, x => by show ((u.setCell _ y).setCells g (o + 1) r).frozen? x = _; rw [cells_frozen]; exact World.frozen?_setCell _ _ _ _
theorem cells_some (g : Nat) {p : Addr} : ∀ (vs : List Value) (o : Nat) (u : World), (u.cell? p).isSome = true → ((u.setCells g o vs).cell? p).isSome = true
  | [], _, _, h => h
  | _ :: r, o, _, h => cells_some g r (o + 1) _ (setCell_some h)
theorem cells_in (g : Nat) : ∀ (vs : List Value) (o : Nat) (u : World), (∀ j, j < vs.length → (u.cell? ⟨g, o + j, none⟩).isSome = true) → ∀ j x, vs[j]? = some x → (u.setCells g o vs).cell? ⟨g, o + j, none⟩ = some x
  | [], _, _, _, _, _, hx => by simp at hx
  | y :: r, o, u, hs, j, x, hx => by
    show ((u.setCell ⟨g, o, none⟩ y).setCells g (o + 1) r).cell? _ = _
    cases j with
    | zero =>
      simp at hx
      subst hx
      rw [World.cell?_setCells_out g r (o + 1) _ ⟨g, o + 0, none⟩ (fun _ _ => .inl (by simp))]
      obtain ⟨u0, hu0⟩ := Option.isSome_iff_exists.1 (hs 0 (by simp))
      exact set_same hu0
    | succ j =>
      have := cells_in g r (o + 1) (u.setCell ⟨g, o, none⟩ y) (fun j hj => setCell_some (by
        have := hs (j + 1) (by simpa using hj)
        rwa [show o + (j + 1) = o + 1 + j by omega] at this)) j x (by simpa using hx)
      rwa [show o + 1 + j = o + (j + 1) by omega] at this
/-- What is written behind the first k. -/
theorem Cs.behind {w : World} {g off cap : Nat} {l : List Cl} (h : Cs w g off cap l) (k : Nat) (vs : List Value) : Cs (w.setCells g (off + k * 2) vs) g off cap (l.take k) := by
  have h2 := h.take k
  refine ⟨by rw [cells_size]; exact h2.lt, h2.len, h2.max, fun i c hc => ?_, fun j hj => cells_some g vs _ _ (h2.there j hj), fun j hj => by rw [cells_frozen]; exact h2.free j hj⟩
  obtain ⟨a, b⟩ := h2.cells i c hc
  have hi : i < k := by have := (List.getElem?_eq_some_iff.1 hc).1; rw [List.length_take] at this; omega
  exact ⟨by rw [World.cell?_setCells_out g vs _ w _ (fun _ _ => .inl (by show off + i * 2 < off + k * 2; omega))]; exact a, by rw [World.cell?_setCells_out g vs _ w _ (fun _ _ => .inl (by show off + i * 2 + 1 < off + k * 2; omega))]; exact b⟩
/-- Claims written at place k, k of them ahead of it. -/
theorem Cs.put {w : World} {g off cap : Nat} {l : List Cl} (h : Cs w g off cap l) {k : Nat} (hk : k ≤ l.length) (m : List Cl) (hm : k + m.length ≤ cap) : Cs (w.setCells g (off + k * 2) (cls2 m)) g off cap (l.take k ++ m ++ l.drop (k + m.length)) := by
  have hb := h.behind k (cls2 m)
  have hl := h.len
  refine ⟨hb.lt, by simp; omega, h.max, fun i c hc => ?_, hb.there, hb.free⟩
  have h2 := cls2_length m
  have htl : (l.take k).length = k := by rw [List.length_take]; omega
  rcases Nat.lt_or_ge i k with h1 | h1
  · rw [List.append_assoc, List.getElem?_append_left (by omega)] at hc
    exact hb.cells i c hc
  · rcases Nat.lt_or_ge i (k + m.length) with h3 | h3
    · rw [List.getElem?_append_left (by rw [List.length_append]; omega), List.getElem?_append_right (by omega), htl] at hc
      obtain ⟨a, b⟩ := cls2_get m (i - k) c hc
      have hin := cells_in g (cls2 m) (off + k * 2) w (fun j hj => by rw [Nat.add_assoc]; exact h.there _ (by omega))
      have e0 := hin _ _ a
      have e1 := hin _ _ b
      rw [show off + k * 2 + (i - k) * 2 = off + i * 2 by omega] at e0
      rw [show off + k * 2 + ((i - k) * 2 + 1) = off + i * 2 + 1 by omega] at e1
      exact ⟨e0, e1⟩
    · rw [List.getElem?_append_right (by rw [List.length_append]; omega), List.length_append, htl, List.getElem?_drop, show k + m.length + (i - (k + m.length)) = i by omega] at hc
      obtain ⟨a, b⟩ := h.cells i c hc
      exact ⟨by rw [World.cell?_setCells_out g (cls2 m) _ w _ (fun _ _ => .inr (by show off + k * 2 + _ ≤ off + i * 2; omega))]; exact a, by rw [World.cell?_setCells_out g (cls2 m) _ w _ (fun _ _ => .inr (by show off + k * 2 + _ ≤ off + i * 2 + 1; omega))]; exact b⟩
/-- A slice of claims of a call's own. -/
structure RC (w : World) (v : Value) (l : List Cl) : Prop where
  wf : wfC l
  is : (v = .slice none 0 0 ∧ l = []) ∨ ∃ g off cap, v = .slice (some ⟨g, off, none⟩) l.length cap ∧ Cs w g off cap l
theorem RC.nil (w : World) : RC w (.slice none 0 0) [] := ⟨by simp [wfC], .inl ⟨rfl, rfl⟩⟩
theorem RC.later {S : Nat → Prop} {w w' : World} {v : Value} {l : List Cl} (h : RC w v l) (m : Mod S w w') (hs : ∀ g, blk v = some g → ¬ S g) : RC w' v l := by
  refine ⟨h.wf, ?_⟩
  rcases h.is with h0 | ⟨g, off, cap, rfl, hc⟩
  · exact .inl h0
  · exact .inr ⟨g, off, cap, rfl, hc.later m (hs g rfl)⟩
theorem RC.below {w w' : World} {v : Value} {l : List Cl} (h : RC w v l) (b : Below w.heap.size w w') : RC w' v l := h.later (Mod.of_below (S := fun _ => False) b) (fun _ _ => id)
theorem RC.lt {w : World} {v : Value} {l : List Cl} (h : RC w v l) {g : Nat} (hg : blk v = some g) : g < w.heap.size := by
  rcases h.is with ⟨rfl, _⟩ | ⟨g', off, cap, rfl, hc⟩
  · cases hg
  · simp only [blk, Option.some.injEq] at hg
    subst hg
    exact hc.lt
theorem RC.max {w : World} {v : Value} {l : List Cl} (h : RC w v l) : l.length ≤ maxLen := by
  rcases h.is with ⟨_, rfl⟩ | ⟨g, off, cap, _, hc⟩
  · exact Nat.zero_le _
  · exact Nat.le_trans hc.len hc.max
theorem RC.slice {w : World} {v : Value} {l : List Cl} (h : RC w v l) : ∃ A c, v = .slice A l.length c ∧ l.length ≤ c ∧ IsC w A l.length l := by
  rcases h.is with ⟨rfl, rfl⟩ | ⟨g, off, cap, rfl, hc⟩
  · exact ⟨none, 0, rfl, Nat.le_refl _, rfl, Nat.zero_le _, by simp, fun h => by simp at h⟩
  · exact ⟨_, _, rfl, hc.len, rfl, Nat.le_trans hc.len hc.max, h.wf, fun _ => ⟨g, off, rfl, hc.lt, hc.cells⟩⟩
theorem RC.row {w : World} {v : Value} {l : List Cl} (h : RC w v l) : Row w 2 v l.length (cls2 l) := by
  refine ⟨cls2_length l, ?_⟩
  rcases h.is with ⟨rfl, rfl⟩ | ⟨g, off, cap, rfl, hc⟩
  · exact .inl ⟨rfl, rfl⟩
  · refine .inr ⟨g, off, cap, rfl, hc.lt, hc.len, hc.max, fun j u hu => ?_, fun j hj => ?_, hc.free⟩
    · have hj := (List.getElem?_eq_some_iff.1 hu).1
      rw [cls2_length] at hj
      obtain ⟨a, b⟩ := cls2_get l (j / 2) (l[j / 2]'(by omega)) (List.getElem?_eq_getElem _)
      obtain ⟨c0, c1⟩ := hc.cells (j / 2) (l[j / 2]'(by omega)) (List.getElem?_eq_getElem _)
      rcases Nat.mod_two_eq_zero_or_one j with h2 | h2
      · rw [show j / 2 * 2 = j by omega] at a c0
        rw [a] at hu
        rw [c0, ← hu]
      · rw [show j / 2 * 2 + 1 = j by omega] at b
        rw [show off + j / 2 * 2 + 1 = off + j by omega] at c1
        rw [b] at hu
        rw [c1, ← hu]
    · rw [Nat.add_assoc]
      exact hc.there _ (by have := hc.len; omega)
theorem RC.of_row {w : World} {v : Value} {n : Nat} {l : List Cl} (h : Row w 2 v n (cls2 l)) (wf : wfC l) : RC w v l := by
  have hlen := h.length
  rw [cls2_length] at hlen
  obtain rfl : n = l.length := by omega
  refine ⟨wf, ?_⟩
  rcases h.is with ⟨rfl, h0⟩ | ⟨g, off, cap, rfl, hg, hnc, hcm, hcs, hsp, hfr⟩
  · exact .inl ⟨rfl, List.eq_nil_of_length_eq_zero h0⟩
  · refine .inr ⟨g, off, cap, rfl, hg, hnc, hcm, fun i c hc => ?_, fun j hj => ?_, hfr⟩
    · obtain ⟨a, b⟩ := cls2_get l i c hc
      exact ⟨hcs _ _ a, by rw [Nat.add_assoc]; exact hcs _ _ b⟩
    · rcases Nat.lt_or_ge j (l.length * 2) with h1 | h1
      · have hj2 : j < (cls2 l).length := by rw [cls2_length]; exact h1
        rw [hcs j _ (List.getElem?_eq_getElem hj2)]
        rfl
      · have := hsp (j - l.length * 2) (by rw [Nat.sub_mul]; omega)
        rwa [show off + l.length * 2 + (j - l.length * 2) = off + j by omega] at this
theorem RC.blk_not {w : World} {v : Value} {l : List Cl} (h : RC w v l) : ∀ g, blk v = some g → ¬ w.heap.size ≤ g := fun g hg => by have := h.lt hg; omega

/-! ### clear, copy -/
theorem zeroC (w : World) : (zeroValue 61).run Try.prog w = .ok (.agg #[.int .i64 0, .int .i64 0]) w := by kernel_rfl
def zer (n : Nat) : List Value := (Builtin.zeroCells #[.int .i64 0, .int .i64 0] n).toList
theorem zer_length (n : Nat) : (zer n).length = n * 2 := by simp [zer, Builtin.zeroCells]
theorem run_clear2 (w : World) (ty : TypeId) (b o n c : Nat) (hn : 0 < n) (hc : ∀ j, j < n * 2 → (w.cell? ⟨b, o + j, none⟩).isSome = true) (hf : ∀ j, j < n * 2 → w.frozen? ⟨b, o + j, none⟩ = false) :
    (Builtin.clear_ #[55] ty #[.slice (some ⟨b, o, none⟩) n c]).run Try.prog w = .ok (.tuple #[]) (w.setCells b o (zer n)) := by
  have hl := zer_length n
  have h1 : ∀ v ∈ zer n, v.oneCell' = true := by
    intro v hv
    obtain ⟨i, hi, rfl⟩ := List.getElem_of_mem hv
    simp only [zer, Builtin.zeroCells]
    rcases Nat.mod_two_eq_zero_or_one i with h | h <;> simp [h] <;> rfl
  have hst := run_storeCells_cells (P := Try.prog) b o (zer n) 0 w (by rw [hl]; simpa using hc) (by rw [hl]; simpa using hf) h1
  simp only [Nat.add_zero] at hst
  obtain ⟨m, rfl⟩ : ∃ m, n = m + 1 := ⟨n - 1, by omega⟩
  have hcl : (Value.agg #[.int .i64 0, .int .i64 0]).cells = #[.int .i64 0, .int .i64 0] := rfl
  unfold zer at hst ⊢
  simp [Builtin.clear_, run_underlying Try.underlying55, hcl, hst]
end Go.Proofs.Ythpmodohfjjjcaa
