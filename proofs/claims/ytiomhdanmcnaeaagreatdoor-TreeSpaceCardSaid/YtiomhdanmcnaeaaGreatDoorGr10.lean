/- Rows of structs of a call's own, whatever the struct: by the cells that each element has. -/
import Derived.Test.YtiomhdanmcnaeaaGreatDoorRowAny
namespace Go.Proofs.YtiomhdanmcnaeaaGreatDoor
open Go.RowKit

section
variable {α : Type}
def flat (enc : α → List Value) : List α → List Value
  | [] => []
  | a :: l => enc a ++ flat enc l
theorem flat_append (enc : α → List Value) : ∀ l m, flat enc (l ++ m) = flat enc l ++ flat enc m
  | [], _ => rfl
  | a :: l, m => by simp [flat, flat_append enc l m]
theorem flat_one (enc : α → List Value) (a : α) : flat enc [a] = enc a := by simp [flat]
/-- What is so of a struct's cells. -/
structure Enc (k : Nat) (enc : α → List Value) : Prop where
  len : ∀ a, (enc a).length = k
  one : ∀ a, ∀ u ∈ enc a, u.oneCell' = true
  pos : 0 < k
variable {k : Nat} {enc : α → List Value}
theorem flat_length (h : Enc k enc) : ∀ l, (flat enc l).length = l.length * k
  | [] => by simp [flat]
  | a :: l => by rw [flat, List.length_append, h.len, flat_length h l, List.length_cons, Nat.add_mul]; omega
theorem flat_get (h : Enc k enc) : ∀ (l : List α) (i : Nat) (a : α) (j : Nat) (u : Value), l[i]? = some a → (enc a)[j]? = some u → (flat enc l)[i * k + j]? = some u
  | [], _, _, _, _, hi, _ => by simp at hi
  | b :: l, 0, a, j, u, hi, hj => by
    simp at hi
    subst hi
    have := (List.getElem?_eq_some_iff.1 hj).1
    rw [flat, Nat.zero_mul, Nat.zero_add, List.getElem?_append_left this]
    exact hj
  | b :: l, i + 1, a, j, u, hi, hj => by
    have := flat_get h l i a j u (by simpa using hi) hj
    rw [flat, List.getElem?_append_right (by rw [h.len, Nat.add_mul]; omega), h.len, show (i + 1) * k + j - k = i * k + j by rw [Nat.add_mul]; omega]
    exact this
theorem flat_split (h : Enc k enc) (l : List α) (q : Nat) (u : Value) (hq : (flat enc l)[q]? = some u) : ∃ i a j, q = i * k + j ∧ l[i]? = some a ∧ (enc a)[j]? = some u := by
  have hlt := (List.getElem?_eq_some_iff.1 hq).1
  rw [flat_length h] at hlt
  have hi : q / k < l.length := by rw [Nat.div_lt_iff_lt_mul h.pos]; exact hlt
  have hj : q % k < k := Nat.mod_lt _ h.pos
  refine ⟨q / k, l[q / k], q % k, by rw [Nat.mul_comm]; exact (Nat.div_add_mod q k).symm, List.getElem?_eq_getElem hi, ?_⟩
  have hjl : q % k < (enc l[q / k]).length := by rw [h.len]; exact hj
  have := flat_get h l (q / k) l[q / k] (q % k) _ (List.getElem?_eq_getElem hi) (List.getElem?_eq_getElem hjl)
  rw [show q / k * k + q % k = q by rw [Nat.mul_comm]; exact Nat.div_add_mod q k, hq] at this
  rw [List.getElem?_eq_getElem hjl]
  exact this.symm
theorem flat_cells (h : Enc k enc) (l : List α) : ∀ u ∈ flat enc l, u.oneCell' = true := by
  intro u hu
  obtain ⟨q, hq, rfl⟩ := List.getElem_of_mem hu
  obtain ⟨i, a, j, _, _, hj⟩ := flat_split h l q _ (List.getElem?_eq_getElem hq)
  exact h.one a _ (List.mem_of_getElem? hj)
/-- A slice of structs, as far as it may be read. -/
structure IsG (w : World) (k : Nat) (enc : α → List Value) (A : Option Addr) (n : Nat) (l : List α) : Prop where
  length : l.length = n
  max : n ≤ maxLen
  cells : 0 < n → ∃ g off, A = some ⟨g, off, none⟩ ∧ g < w.heap.size ∧ ∀ i a j u, l[i]? = some a → (enc a)[j]? = some u → w.cell? ⟨g, off + i * k + j, none⟩ = some u
theorem IsG.below {w w' : World} {A : Option Addr} {n : Nat} {l : List α} (h : IsG w k enc A n l) (b : Below w.heap.size w w') : IsG w' k enc A n l :=
  ⟨h.length, h.max, fun h0 => by
    obtain ⟨g, off, e, hg, hc⟩ := h.cells h0
    exact ⟨g, off, e, Nat.lt_of_lt_of_le hg b.size, fun i a j u hi hj => (b.cell (p := ⟨g, off + i * k + j, none⟩) hg).trans (hc i a j u hi hj)⟩⟩
theorem IsG.later {S : Nat → Prop} {w w' : World} {A : Option Addr} {n : Nat} {l : List α} (h : IsG w k enc A n l) (m : Mod S w w') (hs : ∀ g off, A = some ⟨g, off, none⟩ → 0 < n → ¬ S g) : IsG w' k enc A n l :=
  ⟨h.length, h.max, fun h0 => by
    obtain ⟨g, off, e, hg, hc⟩ := h.cells h0
    exact ⟨g, off, e, Nat.lt_of_lt_of_le hg m.size, fun i a j u hi hj => (m.cell (p := ⟨g, off + i * k + j, none⟩) hg (hs g off e h0)).trans (hc i a j u hi hj)⟩⟩
theorem IsG.small {w : World} {A : Option Addr} {n : Nat} {l : List α} (h : IsG w k enc A n l) : n ≤ 9223372036854775807 := by
  have := h.max; unfold maxLen at this; omega
theorem IsG.take {w : World} {A : Option Addr} {n : Nat} {l : List α} (h : IsG w k enc A n l) {m : Nat} (hm : m ≤ n) : IsG w k enc A m (l.take m) :=
  ⟨by rw [List.length_take, h.length]; omega, Nat.le_trans hm h.max, fun h0 => by
    obtain ⟨g, off, e, hg, hc⟩ := h.cells (by omega)
    refine ⟨g, off, e, hg, fun i a j u hi hj => hc i a j u ?_ hj⟩
    rw [List.getElem?_take] at hi
    split at hi
    · exact hi
    · cases hi⟩
theorem IsG.drop {w : World} {g off : Nat} {n : Nat} {l : List α} (h : IsG w k enc (some ⟨g, off, none⟩) n l) {m : Nat} (hm : m ≤ n) (A : Option Addr) (hA : m < n → A = some ⟨g, off + m * k, none⟩) : IsG w k enc A (n - m) (l.drop m) :=
  ⟨by rw [List.length_drop, h.length], Nat.le_trans (Nat.sub_le _ _) h.max, fun h0 => by
    obtain ⟨g', off', e, hg, hc⟩ := h.cells (by omega)
    injection e with e
    injection e with e1 e2
    subst e1 e2
    refine ⟨g, off + m * k, hA (by omega), hg, fun i a j u hi hj => ?_⟩
    rw [List.getElem?_drop] at hi
    have := hc (m + i) a j u hi hj
    rwa [show off + (m + i) * k + j = off + m * k + i * k + j by rw [Nat.add_mul]; omega] at this⟩
/-- A row of structs of a call's own. -/
structure RG (w : World) (k : Nat) (enc : α → List Value) (v : Value) (l : List α) : Prop where
  row : Row w k v l.length (flat enc l)
theorem RG.nil (w : World) (k : Nat) (enc : α → List Value) : RG w k enc (.slice none 0 0) [] := ⟨row_nil w k⟩
theorem RG.later {S : Nat → Prop} {w w' : World} {v : Value} {l : List α} (h : RG w k enc v l) (m : Mod S w w') (hs : ∀ g, blk v = some g → ¬ S g) : RG w' k enc v l := ⟨h.row.later m hs⟩
theorem RG.below {w w' : World} {v : Value} {l : List α} (h : RG w k enc v l) (b : Below w.heap.size w w') : RG w' k enc v l := h.later (Mod.of_below (S := fun _ => False) b) (fun _ _ => id)
theorem RG.lt {w : World} {v : Value} {l : List α} (h : RG w k enc v l) {g : Nat} (hg : blk v = some g) : g < w.heap.size := h.row.blk_lt hg
theorem RG.shape {w : World} {v : Value} {l : List α} (h : RG w k enc v l) : ∃ A c, v = .slice A l.length c := row_shape h.row
theorem RG.is (he : Enc k enc) {w : World} {A : Option Addr} {n c : Nat} {l : List α} (h : RG w k enc (.slice A n c) l) : IsG w k enc A n l ∧ n ≤ c ∧ c ≤ maxLen := by
  rcases h.row.is with ⟨e, hl⟩ | ⟨g, off, cap, e, hg, hnc, hcm, hcs, _⟩
  · injection e with e1 e2 e3
    subst e1 e2 e3
    exact ⟨⟨hl, Nat.zero_le _, fun h0 => by omega⟩, Nat.le_refl _, Nat.zero_le _⟩
  · injection e with e1 e2 e3
    subst e1 e2 e3
    refine ⟨⟨rfl, Nat.le_trans hnc hcm, fun _ => ⟨g, off, rfl, hg, fun i a j u hi hj => ?_⟩⟩, hnc, hcm⟩
    have := hcs _ _ (flat_get he l i a j u hi hj)
    rwa [← Nat.add_assoc] at this
/-- What append leaves of where it was. -/
structure AppG (w w' : World) (v v' : Value) : Prop where
  mod : Mod (fun g => blk v = some g) w w'
  blk : blk v' = blk v ∨ ∃ g, blk v' = some g ∧ w.heap.size ≤ g
/-- What the program knows of a slice type. -/
structure Inf (t e : TypeId) (k bytes : Nat) : Prop where
  under : Tryz.prog.underlying t = some (.slice e)
  info : ∃ i z, Tryz.prog.info? e = some i ∧ i.zero = some z ∧ i.size = k ∧ i.bytes = bytes ∧ z.cells.size = k
theorem appG {t e : TypeId} {bytes : Nat} (hi : Inf t e k bytes) (he : Enc k enc) {w : World} {v : Value} {l1 : List α} (h : RG w k enc v l1) {A : Option Addr} {m c : Nat} {l2 : List α} (h2 : IsG w k enc A m l2) (hs : l1.length + m ≤ 100000) (hb : bytes ≤ 1000) (ty : TypeId) :
    ∃ v' w', (Builtin.append_ #[t, t] ty #[v, .slice A m c]).run Tryz.prog w = .ok v' w' ∧ RG w' k enc v' (l1 ++ l2) ∧ AppG w w' v v' := by
  obtain ⟨i0, z, hi0, hz0, hz1, hz2, hz3⟩ := hi.info
  have hbytes : (l1.length + m) * bytes ≤ 140737488355328 := Nat.le_trans (Nat.mul_le_mul hs hb) (by decide)
  have key : ∀ ad : Addr, (∀ (j : Nat) (u : Value), (flat enc l2)[j]? = some u → w.cell? (ad.add j) = some u) → ∃ v' w', (Builtin.append_ #[t, t] ty #[v, .slice (some ad) m c]).run Tryz.prog w = .ok v' w' ∧ RG w' k enc v' (l1 ++ l2) ∧ AppG w w' v v' := fun ad hn => by
    obtain ⟨v', w', a, b, d, e⟩ := append_any h.row t ty e i0 z bytes hi.under hi0 hz0 hz1 hz2 hz3 he.pos ad m c (flat enc l2) (by rw [flat_length he, h2.length]) hn (flat_cells he l2) (by unfold maxLen; omega) hbytes
    rw [← flat_append] at b
    exact ⟨v', w', a, ⟨by rw [List.length_append, h2.length]; exact b⟩, d, e⟩
  rcases Nat.eq_zero_or_pos m with h0 | h0
  · subst h0
    have hl : l2 = [] := List.eq_nil_of_length_eq_zero h2.length
    subst hl
    cases A with
    | none =>
      refine ⟨v, w, ?_, by rw [List.append_nil]; exact h, Mod.refl _ _, .inl rfl⟩
      rcases h.row.is with ⟨rfl, hl⟩ | ⟨g, off, cap, rfl, _, hnc, _⟩
      · simp [Builtin.append_, run_underlying hi.under, sizeOf, typeInfo, hi0, Builtin.lenOf, Builtin.firstCells]
      · simp [Builtin.append_, run_underlying hi.under, sizeOf, typeInfo, hi0, Builtin.lenOf, Builtin.firstCells, hnc, storeCells]
    | some ad => exact key ad (fun j u hu => by simp [flat] at hu)
  · obtain ⟨g, off, rfl, _, hc⟩ := h2.cells h0
    refine key _ (fun q u hq => ?_)
    rw [add_plain]
    obtain ⟨i, a, j, rfl, hi, hj⟩ := flat_split he l2 q u hq
    rw [← Nat.add_assoc]
    exact hc i a j u hi hj
/-- One element, just made. -/
theorem IsG.one {w : World} {g : Nat} {a : α} (hg : g < w.heap.size) (hc : ∀ j u, (enc a)[j]? = some u → w.cell? ⟨g, j, none⟩ = some u) : IsG w k enc (some ⟨g, 0, none⟩) 1 [a] :=
  ⟨rfl, by unfold maxLen; omega, fun _ => ⟨g, 0, rfl, hg, fun i b j u hi hj => by
    match i, hi with
    | 0, hi =>
      simp at hi
      subst hi
      rw [Nat.zero_mul, Nat.zero_add]
      exact hc j u hj
    | i + 1, hi => simp at hi⟩⟩
end
end Go.Proofs.YtiomhdanmcnaeaaGreatDoor
