/- Rows of structs of a call's own, whatever the struct: an element stored, a row made, append where there is no room. -/
import Derived.Test.YtiomhdanmcnaeaaGreatDoorGr10
import Derived.Laws.MakeOwn
namespace Go.Proofs.YtiomhdanmcnaeaaGreatDoor
open Go.RowKit

theorem wpList_append_run {w w' : World} {ops : Array Oper} {rest : List Oper} {o : Oper} {a : Act} {Q : Exit → Act → World → Prop} (hgd : o.guard = none) (s x : Operand) (t : TypeId)
    (ho : o.op = .call { callee := .builtin .append, args := #[s, x], argTypes := #[t, t] }) {v' : Value} (hr : (Builtin.append_ #[t, t] o.type #[a.eval s, a.eval x]).run Tryz.prog w = .ok v' w')
    (h : wpList Tryz.prog ops Q rest (a.put o.dst v') w') : wpList Tryz.prog ops Q (o :: rest) a w := by
  refine wpList_plain hgd fun K' hK' => ?_
  unfold Oper.wp
  rw [exec_append ho hr]
  exact hK' _ _ h
theorem rowSet {w : World} {size g off n cap : Nat} {xs : List Value} (h : Row w size (.slice (some ⟨g, off, none⟩) n cap) n xs) {j : Nat} (hj : j < n * size) (u : Value) :
    Row (w.setCell ⟨g, off + j, none⟩ u) size (.slice (some ⟨g, off, none⟩) n cap) n (xs.set j u) := by
  refine ⟨by rw [List.length_set]; exact h.length, ?_⟩
  rcases h.is with ⟨e, _⟩ | ⟨g', off', cap', e, hg, h1, h2, hc, hs, hf⟩
  · cases e
  · injection e with e _ ec
    injection e with e
    injection e with e1 e2
    subst e1 e2 ec
    refine .inr ⟨g, off, cap, rfl, by simpa [World.setCell] using hg, h1, h2, fun k v hv => ?_, fun k hk => ?_, fun k hk => by rw [World.frozen?_setCell]; exact hf k hk⟩
    · by_cases e : j = k
      · subst e
        have hlt : j < xs.length := by rw [h.length]; exact hj
        rw [List.getElem?_set_self hlt] at hv
        injection hv with hv
        subst hv
        exact set_same (hc j _ (List.getElem?_eq_getElem hlt))
      · rw [List.getElem?_set_ne e] at hv
        rw [World.cell?_setCell_other _ _ _ _ (fun h => by injection h with _ h; omega)]
        exact hc k v hv
    · rw [World.cell?_setCell_other _ _ _ _ (fun h => by injection h with _ h; omega)]
      exact hs k hk
theorem setMid (xs : List Value) (j : Nat) (u : Value) (vs : List Value) (h : j < xs.length) : (xs.set j u).take (j + 1) ++ vs ++ (xs.set j u).drop (j + 1 + vs.length) = xs.take j ++ (u :: vs) ++ xs.drop (j + (u :: vs).length) := by
  have e1 : (xs.set j u).take (j + 1) = xs.take j ++ [u] := by
    rw [List.take_succ_eq_append_getElem (by simpa using h), List.take_set, List.set_eq_of_length_le (by rw [List.length_take]; omega), List.getElem_set_self]
  have e2 : (xs.set j u).drop (j + 1 + vs.length) = xs.drop (j + (u :: vs).length) := by
    rw [List.drop_set_of_lt (by omega)]
    rw [List.length_cons]
    congr 1
    omega
  rw [e1, e2]
  simp
theorem rowSets {size g off n cap : Nat} : ∀ (vs : List Value) {w : World} {xs : List Value} (_ : Row w size (.slice (some ⟨g, off, none⟩) n cap) n xs) {j : Nat} (_ : j + vs.length ≤ n * size),
    Row (w.setCells g (off + j) vs) size (.slice (some ⟨g, off, none⟩) n cap) n (xs.take j ++ vs ++ xs.drop (j + vs.length))
  | [], w, xs, h, j, hj => by
    show Row w _ _ _ _
    simpa using h
  | u :: vs, w, xs, h, j, hj => by
    have hlt : j < n * size := by simp at hj; omega
    have h1 := rowSet h hlt u
    have h2 := rowSets vs h1 (j := j + 1) (by simp at hj; omega)
    rw [setMid xs j u vs (by rw [h.length]; exact hlt)] at h2
    exact h2
section
variable {α : Type} {k : Nat} {enc : α → List Value}
theorem flat_take (h : Enc k enc) : ∀ (l : List α) (i : Nat), (flat enc l).take (i * k) = flat enc (l.take i)
  | [], i => by simp [flat]
  | a :: l, 0 => by simp [flat]
  | a :: l, i + 1 => by
    rw [flat, List.take_succ_cons, flat, List.take_append, h.len, show (i + 1) * k - k = i * k by rw [Nat.add_mul]; omega, flat_take h l i, List.take_of_length_le (by rw [h.len, Nat.add_mul]; omega)]
theorem flat_drop (h : Enc k enc) : ∀ (l : List α) (i : Nat), (flat enc l).drop (i * k) = flat enc (l.drop i)
  | [], i => by simp [flat]
  | a :: l, 0 => by simp [flat]
  | a :: l, i + 1 => by
    rw [flat, List.drop_succ_cons, List.drop_append, h.len, show (i + 1) * k - k = i * k by rw [Nat.add_mul]; omega, flat_drop h l i, List.drop_of_length_le (by rw [h.len, Nat.add_mul]; omega), List.nil_append]
theorem flat_set (h : Enc k enc) (l : List α) (i : Nat) (a : α) (hi : i < l.length) : flat enc (l.set i a) = (flat enc l).take (i * k) ++ enc a ++ (flat enc l).drop (i * k + (enc a).length) := by
  rw [flat_take h, h.len, show i * k + k = (i + 1) * k by rw [Nat.add_mul]; omega, flat_drop h, List.set_eq_take_append_cons_drop, if_pos hi, flat_append, flat, List.append_assoc]
/-- An element stored. -/
theorem RG.set (he : Enc k enc) {w : World} {g off n c : Nat} {l : List α} (h : RG w k enc (.slice (some ⟨g, off, none⟩) n c) l) {i : Nat} (hi : i < l.length) (a : α) :
    RG (w.setCells g (off + i * k) (enc a)) k enc (.slice (some ⟨g, off, none⟩) n c) (l.set i a) := by
  obtain ⟨A, c', e⟩ := h.shape
  injection e with e1 e2 e3
  subst e2
  have h1 := h.row
  have h2 := rowSets (enc a) h1 (j := i * k) (by rw [he.len]; calc i * k + k = (i + 1) * k := by rw [Nat.add_mul]; omega
    _ ≤ l.length * k := Nat.mul_le_mul_right _ hi)
  refine ⟨?_⟩
  rw [flat_set he l i a hi, List.length_set]
  exact h2
theorem RG.cell {α : Type} {w : World} {k : Nat} {enc : α → List Value} (he : Enc k enc) {g off n c : Nat} {l : List α} (h : RG w k enc (.slice (some ⟨g, off, none⟩) n c) l) {i : Nat} {a : α} (hi : l[i]? = some a) {j : Nat} {u : Value} (hj : (enc a)[j]? = some u) :
    w.cell? ⟨g, off + i * k + j, none⟩ = some u ∧ w.frozen? ⟨g, off + i * k + j, none⟩ = false := by
  rcases h.row.is with ⟨e, _⟩ | ⟨g', off', cap', e, hg, h1, h2, hc, hs, hf⟩
  · cases e
  · injection e with e e2 e3
    have e4 : g = g' := congrArg Addr.block (Option.some.inj e)
    have e5 : off = off' := congrArg Addr.off (Option.some.inj e)
    subst e4 e5 e3
    have hil := (List.getElem?_eq_some_iff.1 hi).1
    have hjl := (List.getElem?_eq_some_iff.1 hj).1
    rw [he.len] at hjl
    have h3 : (i + 1) * k ≤ c * k := Nat.mul_le_mul_right _ (by omega)
    rw [Nat.add_mul] at h3
    rw [Nat.add_assoc]
    exact ⟨hc _ _ (flat_get he l i a j u hi hj), hf _ (by omega)⟩
theorem setCells_mod (g : Nat) : ∀ (vs : List Value) (o : Nat) (w : World), Mod (· = g) w (w.setCells g o vs)
  | [], _, w => Mod.refl _ w
  | v :: vs, o, w => ((Mod.refl (· = g) w).set1 v).trans (setCells_mod g vs (o + 1) _)
/-- A row made of elements that are all zero. -/
theorem RG.made (he : Enc k enc) (z : α) (w : World) (n : Nat) (hn : n ≤ 100000) (e : TypeId) : RG (w.alloc (.cells (madeCells (enc z).toArray (n * k)) e)) k enc (.slice (some ⟨w.heap.size, 0, none⟩) n n) (List.replicate n z) := by
  have hlen : (flat enc (List.replicate n z)).length = n * k := by rw [flat_length he, List.length_replicate]
  refine ⟨⟨by rw [hlen, List.length_replicate], .inr ⟨w.heap.size, 0, n, by rw [List.length_replicate], by simp, by rw [List.length_replicate]; exact Nat.le_refl _, by unfold maxLen; omega, fun j u hu => ?_, fun j hj => by rw [List.length_replicate, Nat.sub_self, Nat.zero_mul] at hj; omega, fun j hj => by rw [World.frozen?_alloc_mark]; simp⟩⟩⟩
  obtain ⟨i, a, q, rfl, hi, hq⟩ := flat_split he _ j u hu
  rw [List.getElem?_replicate] at hi
  split at hi
  · rename_i hlt
    injection hi with hi
    subst hi
    have hq' := (List.getElem?_eq_some_iff.1 hq).1
    rw [he.len] at hq'
    have hs : (enc z).toArray.size = k := by simp [he.len]
    have hb : i * k + q < n * k := by
      have : (i + 1) * k ≤ n * k := Nat.mul_le_mul_right _ hlt
      rw [Nat.add_mul] at this
      omega
    rw [Nat.zero_add, World.cell?_alloc_mark]
    simp only [madeCells, Array.getElem?_map, Array.getElem?_range, hb, if_true, Option.map_some]
    rw [hs, Nat.mul_comm i k, Nat.mul_add_mod, Nat.mod_eq_of_lt hq']
    congr 1
    rw [getElem!_def]
    have : (enc z).toArray[q]? = some u := by simpa using hq
    rw [this]
  · cases hi
/-- append to a slice that has no room: a new row. -/
theorem appNew {t e : TypeId} {bytes : Nat} (hi : Inf t e k bytes) (he : Enc k enc) {w : World} {g off n : Nat} {l1 : List α} (h : IsG w k enc (some ⟨g, off, none⟩) n l1) {A : Option Addr} {m c : Nat} {l2 : List α} (h2 : IsG w k enc A m l2) (hm : 0 < m) (hs : (n + m) * bytes ≤ 140737488355328) (hs2 : n + m ≤ maxLen) (ty : TypeId) :
    ∃ cap w', (Builtin.append_ #[t, t] ty #[.slice (some ⟨g, off, none⟩) n n, .slice A m c]).run Tryz.prog w = .ok (.slice (some ⟨w.heap.size, 0, none⟩) (n + m) cap) w' ∧ RG w' k enc (.slice (some ⟨w.heap.size, 0, none⟩) (n + m) cap) (l1 ++ l2) ∧ Below w.heap.size w w' ∧ w.heap.size < w'.heap.size := by
  obtain ⟨i0, z, hi0, hz0, hz1, hz2, hz3⟩ := hi.info
  obtain ⟨g2, off2, rfl, hg2, hc2⟩ := h2.cells hm
  have hl1 : (flat enc l1).length = n * k := by rw [flat_length he, h.length]
  have hl2 : (flat enc l2).length = m * k := by rw [flat_length he, h2.length]
  have c1 : ∀ j v, (flat enc l1)[j]? = some v → w.cell? ((⟨g, off, none⟩ : Addr).add j) = some v := fun j v hv => by
    rw [add_plain]
    obtain ⟨i, a, q, rfl, hi, hq⟩ := flat_split he l1 j v hv
    rw [← Nat.add_assoc]
    have hin := (List.getElem?_eq_some_iff.1 hi).1
    obtain ⟨g', off', e, _, hc⟩ := h.cells (by rw [← h.length]; exact Nat.zero_lt_of_lt hin)
    have e1 : g = g' := congrArg Addr.block (Option.some.inj e)
    have e2 : off = off' := congrArg Addr.off (Option.some.inj e)
    rw [e1, e2]
    exact hc i a q v hi hq
  have c2 : ∀ j v, (flat enc l2)[j]? = some v → w.cell? ((⟨g2, off2, none⟩ : Addr).add j) = some v := fun j v hv => by
    rw [add_plain]
    obtain ⟨i, a, q, rfl, hi, hq⟩ := flat_split he l2 j v hv
    rw [← Nat.add_assoc]
    exact hc2 i a q v hi hq
  have hr := run_append_grow (P := Tryz.prog) w t ty e i0 z hi.under hi0 hz0 ⟨g, off, none⟩ n n (flat enc l1) (by rw [hz1]; exact hl1) c1 ⟨g2, off2, none⟩ m c (flat enc l2) (by rw [hz1]; exact hl2) c2 (by omega) (by unfold maxLen at hs2; omega) (growslice_fits (by omega) (by rw [hz2]; exact hs))
  have hge := grownCap_ge w (n + m) n e
  have hcm : grownCap w (n + m) n e ≤ maxLen := grownCap_le_maxLen w (n + m) n e hs2
  obtain ⟨G, hG⟩ : ∃ G, grownCap w (n + m) n e = G := ⟨_, rfl⟩
  rw [hG] at hr hge hcm
  refine ⟨G, _, hr, ⟨⟨?_, .inr ⟨w.heap.size, 0, G, ?_, by simp, ?_, hcm, fun j u hu => ?_, fun j hj => ?_, fun j hj => ?_⟩⟩⟩, (balloc (Below.refl _ _).drew _), by simp⟩
  · rw [flat_append, List.length_append, List.length_append, hl1, hl2, h.length, h2.length, Nat.add_mul]
  · rw [List.length_append, h.length, h2.length]
  · rw [List.length_append, h.length, h2.length]; exact hge
  · show (w.drew.alloc _).cell? ⟨w.drew.heap.size, 0 + j, none⟩ = _
    rw [flat_append] at hu
    rw [Nat.zero_add, World.cell?_alloc_mark, Array.getElem?_append_left, ← hu]
    · simp
    · have := (List.getElem?_eq_some_iff.1 hu).1
      simpa using this
  · rw [List.length_append, h.length, h2.length] at hj ⊢
    have hz : ((flat enc l1).toArray ++ (flat enc l2).toArray ++ Builtin.zeroCells z.cells (G - (n + m))).size = G * k := by
      simp only [Array.size_append, List.size_toArray, size_zeroCells, hz3, hl1, hl2, ← Nat.add_mul]
      rw [Nat.add_sub_cancel' hge]
    have hlt : 0 + (n + m) * k + j < ((flat enc l1).toArray ++ (flat enc l2).toArray ++ Builtin.zeroCells z.cells (G - (n + m))).size := by
      rw [hz]
      have : (G - (n + m)) * k = G * k - (n + m) * k := Nat.sub_mul _ _ _
      omega
    show ((w.drew.alloc _).cell? ⟨w.drew.heap.size, _, none⟩).isSome = true
    rw [World.cell?_alloc_mark, Array.getElem?_eq_getElem hlt]
    rfl
  · show (w.drew.alloc _).frozen? ⟨w.drew.heap.size, _, none⟩ = false
    rw [World.frozen?_alloc_mark]
    simp
end
end Go.Proofs.YtiomhdanmcnaeaaGreatDoor
