/- Claims appended that may be read anywhere; a row cloned. -/
import Derived.Test.YthpmodohfjjjcaaDel9
namespace Go.Proofs.Ythpmodohfjjjcaa
open Go.RowKit

theorem append_nil {w : World} {size : Nat} {v : Value} {n : Nat} {xs : List Value} (h : Row w size v n xs) (t ty e : TypeId) (i : TypeInfo) (ht : Try.prog.underlying t = some (.slice e)) (hi : Try.prog.info? e = some i) (c : Nat) :
    (Builtin.append_ #[t, t] ty #[v, .slice none 0 c]).run Try.prog w = .ok v w := by
  rcases h.is with ⟨rfl, rfl⟩ | ⟨g, off, cap, rfl, _, hnc, _⟩
  · simp [Builtin.append_, run_underlying ht, sizeOf, typeInfo, hi, Builtin.lenOf, Builtin.firstCells]
  · simp [Builtin.append_, run_underlying ht, sizeOf, typeInfo, hi, Builtin.lenOf, Builtin.firstCells, hnc, storeCells]
theorem row_empty (w : World) (size : Nat) (t : TypeId) : Row (w.alloc (.cells #[] t)) size (.slice (some ⟨w.heap.size, 0, none⟩) 0 0) 0 [] :=
  ⟨by simp, .inr ⟨w.heap.size, 0, 0, rfl, by simp, Nat.le_refl _, by simp, fun j u hu => by simp at hu, fun j hj => by simp at hj, fun j hj => by simp at hj⟩⟩
/-- append as an operation, by what it is told to run to. -/
theorem wpList_append_run {w w' : World} {ops : Array Oper} {rest : List Oper} {o : Oper} {a : Act} {Q : Exit → Act → World → Prop} (hgd : o.guard = none) (s x : Operand) (t : TypeId)
    (ho : o.op = .call { callee := .builtin .append, args := #[s, x], argTypes := #[t, t] }) {v' : Value} (hr : (Builtin.append_ #[t, t] o.type #[a.eval s, a.eval x]).run Try.prog w = .ok v' w')
    (h : wpList Try.prog ops Q rest (a.put o.dst v') w') : wpList Try.prog ops Q (o :: rest) a w := by
  refine wpList_plain hgd fun K' hK' => ?_
  unfold Oper.wp
  rw [exec_append ho hr]
  exact hK' _ _ h
/-- What holds of a row that append has made of another one. -/
structure App (w w' : World) (v v' : Value) : Prop where
  mod : Mod (fun g => blk v = some g) w w'
  blk : blk v' = blk v ∨ ∃ g, blk v' = some g ∧ w.heap.size ≤ g
theorem appC {w : World} {v : Value} {l1 : List Cl} (h : RC w v l1) {A : Option Addr} {m c : Nat} {l2 : List Cl} (h2 : IsC w A m l2) (hs : l1.length + m ≤ 1000) (ty : TypeId) :
    ∃ v' w', (Builtin.append_ #[55, 55] ty #[v, .slice A m c]).run Try.prog w = .ok v' w' ∧ RC w' v' (l1 ++ l2) ∧ App w w' v v' := by
  obtain ⟨i0, hi0, hz0, hz1, hz2⟩ := infoCl
  have wf2 : wfC (l1 ++ l2) := fun c hc => by
    rcases List.mem_append.1 hc with h1 | h1
    · exact h.wf c h1
    · exact h2.wf c h1
  have key : ∀ ad : Addr, (∀ (j : Nat) (u : Value), (cls2 l2)[j]? = some u → w.cell? (ad.add j) = some u) → ∃ v' w', (Builtin.append_ #[55, 55] ty #[v, .slice (some ad) m c]).run Try.prog w = .ok v' w' ∧ RC w' v' (l1 ++ l2) ∧ App w w' v v' := fun ad hn => by
    obtain ⟨v', w', a, b, d, e⟩ := append_any h.row 55 ty 61 i0 (.agg #[.int .i64 0, .int .i64 0]) 16 Try.underlying55 hi0 hz0 hz1 hz2 rfl (by decide) ad m c (cls2 l2) (by rw [cls2_length, h2.length]) hn (cls2_cells l2) (by unfold maxLen; omega) (by omega)
    rw [← cls2_append] at b
    exact ⟨v', w', a, RC.of_row b wf2, d, e⟩
  rcases Nat.eq_zero_or_pos m with h0 | h0
  · subst h0
    have hl : l2 = [] := List.eq_nil_of_length_eq_zero h2.length
    subst hl
    cases A with
    | none => exact ⟨v, w, append_nil h.row _ _ _ i0 Try.underlying55 hi0 c, by rw [List.append_nil]; exact h, Mod.refl _ _, .inl rfl⟩
    | some ad => exact key ad (fun j u hu => by simp [cls2] at hu)
  · obtain ⟨g, off, rfl, _, hc⟩ := h2.cells h0
    refine key _ (fun j u hu => ?_)
    rw [add_plain]
    have hj := (List.getElem?_eq_some_iff.1 hu).1
    rw [cls2_length] at hj
    obtain ⟨a, b⟩ := cls2_get l2 (j / 2) (l2[j / 2]'(by omega)) (List.getElem?_eq_getElem _)
    obtain ⟨c0, c1⟩ := hc (j / 2) (l2[j / 2]'(by omega)) (List.getElem?_eq_getElem _)
    rcases Nat.mod_two_eq_zero_or_one j with h2 | h2
    · rw [show j / 2 * 2 = j by omega] at a c0
      rw [a] at hu
      rw [c0, ← hu]
    · rw [show j / 2 * 2 + 1 = j by omega] at b
      rw [show off + j / 2 * 2 + 1 = off + j by omega] at c1
      rw [b] at hu
      rw [c1, ← hu]
set_option maxRecDepth 100000 in
set_option maxHeartbeats 2000000 in
theorem Clone_any (w : World) (A : Option Addr) (n c : Nat) (l : List Cl) (h : IsC w A n l) (hn : n ≤ 1000) :
    Calls Try.prog 56 #[.slice A n c] w fun e w' => ∃ v', e = .returned v' ∧ RC w' v' l ∧ (∀ g, blk v' = some g → w.heap.size ≤ g) ∧ Below w.heap.size w w' := by
  have hq := fun (w : World) => Lib.run_eql_slice_nil (P := Try.prog) w 55 61 A n c 0 0 Try.underlying55
  have H := Lib.hid h
  cases A with
  | none =>
    have hl0 : l = [] := by
      have h1 := h.length
      have h2 := h.cells
      rcases Nat.eq_zero_or_pos n with h0 | h0
      · exact List.eq_nil_of_length_eq_zero (by omega)
      · obtain ⟨g, off, e, _⟩ := h2 h0
        cases e
    subst hl0
    clear h
    go_enter Try.func56, Try.ntmps56
    go_wp2
    go_ret
    exact ⟨.slice none 0 0, rfl, RC.nil _, (fun g hg => by cases hg), Below.refl _ _⟩
  | some ad =>
    have hb1 : Below w.heap.size w (w.alloc (.cells #[] 61)) := (Below.refl _ _).alloc (Nat.le_refl _) _
    have hr0 : RC (w.alloc (.cells #[] 61)) (.slice (some ⟨w.heap.size, 0, none⟩) 0 0) [] := RC.of_row (row_empty w 2 61) (by simp [wfC])
    obtain ⟨v', w2, hr, hrow, hm⟩ := appC hr0 (c := c) (h.below hb1) (by simp; omega) 55
    rw [List.nil_append] at hrow
    have HB : Hid (Below w.heap.size w w2) := Lib.hid (hm.mod.below hb1 (by simp) (fun g hg => by simp [blk] at hg; omega))
    have HN : Hid (∀ g, blk v' = some g → w.heap.size ≤ g) := Lib.hid (fun g hg => by
      rcases hm.blk with h1 | ⟨g', h1, h2⟩
      · rw [hg] at h1; simp [blk] at h1; omega
      · rw [hg] at h1; injection h1 with h1; simp at h2; omega)
    have Hr := Lib.hid hr
    have Hrow := Lib.hid hrow
    clear hr hrow hm hb1 hr0 h
    go_enter Try.func56, Try.ntmps56
    go_wp2_with (at_builtin; refine wpList_append_run rfl (.tmp 5) (.tmp 6) 55 rfl Hr.out ?_)
    go_ret
    exact ⟨v', rfl, Hrow.out, HN.out, HB.out⟩
end Go.Proofs.Ythpmodohfjjjcaa
