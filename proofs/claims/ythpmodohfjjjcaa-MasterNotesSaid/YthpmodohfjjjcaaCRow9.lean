/- Rows of claims of a call's own. -/
import Derived.Test.YthpmodohfjjjcaaSafe9
import Derived.Test.YthpmodohfjjjcaaRowAny
namespace Go.Proofs.Ythpmodohfjjjcaa
open Go.RowKit

theorem append_none (w : World) (t ty e : TypeId) (i : TypeInfo) (ht : Try.prog.underlying t = some (.slice e)) (hi : Try.prog.info? e = some i) (A : Option Addr) (c : Nat) :
    (Builtin.append_ #[t, t] ty #[.slice none 0 0, .slice A 0 c]).run Try.prog w = .ok (.slice none 0 0) w := by
  cases A with
  | none =>
    simp [Builtin.append_, run_underlying ht, sizeOf, typeInfo, hi, Builtin.lenOf, Builtin.firstCells]
  | some ad => exact append_zero (row_nil w i.size) t ty e i ht hi ad c
theorem wpList_append_none (w : World) {ops : Array Oper} {rest : List Oper} {o : Oper} {a : Act} {Q : Exit → Act → World → Prop} (hgd : o.guard = none) (s x : Operand) (t : TypeId)
    (ho : o.op = .call { callee := .builtin .append, args := #[s, x], argTypes := #[t, t] }) (e : TypeId) (i : TypeInfo) (ht : Try.prog.underlying t = some (.slice e)) (hi : Try.prog.info? e = some i)
    (hs : a.eval s = .slice none 0 0) (A : Option Addr) (c : Nat) (hx : a.eval x = .slice A 0 c)
    (hK : wpList Try.prog ops Q rest (a.put o.dst (.slice none 0 0)) w) :
    wpList Try.prog ops Q (o :: rest) a w := by
  refine wpList_plain hgd fun K' hK' => ?_
  have hr := append_none w t o.type e i ht hi A c
  unfold Oper.wp execOp
  simp only [ho, resolve, invoke, builtin, Sem.run_bind, Sem.run_pure, Result.andThen_ok, List.map_toArray, List.map_cons, List.map_nil, hs, hx, hr]
  exact hK' _ _ hK
theorem infoC : (Try.prog.info? 61).map (fun i => (i.zero, i.size, i.bytes)) = some (some (.agg #[.int .i64 0, .int .i64 0]), 2, 16) := by kernel_rfl
def cl1 (c : Cl) : List Value := [.int .i64 c.1, .int .i64 c.2]
def cls2 : List Cl → List Value
  | [] => []
  | c :: l => cl1 c ++ cls2 l
theorem cls2_length : ∀ l, (cls2 l).length = l.length * 2
  | [] => rfl
  | m :: l => by rw [cls2, List.length_append, cls2_length l, List.length_cons]; simp [cl1]; omega
theorem cls2_append : ∀ l k, cls2 (l ++ k) = cls2 l ++ cls2 k
  | [], _ => rfl
  | m :: l, k => by simp [cls2, cls2_append l k]
theorem cls2_one (m : Cl) : cls2 [m] = cl1 m := by simp [cls2]
theorem cls2_get : ∀ (l : List Cl) (i : Nat) (m : Cl), l[i]? = some m → (cls2 l)[i * 2]? = some (.int .i64 m.1) ∧ (cls2 l)[i * 2 + 1]? = some (.int .i64 m.2)
  | [], _, _, h => by simp at h
  | q :: l, 0, m, h => by
    simp at h
    subst h
    exact ⟨rfl, rfl⟩
  | q :: l, i + 1, m, h => by
    have := cls2_get l i m (by simpa using h)
    rw [show (i + 1) * 2 = i * 2 + 1 + 1 by omega]
    exact this
theorem cls2_cells : ∀ (l : List Cl), ∀ u ∈ cls2 l, u.oneCell' = true
  | [], u, hu => by simp [cls2] at hu
  | m :: l, u, hu => by
    simp only [cls2, List.mem_append, cl1, List.mem_cons, List.not_mem_nil, or_false] at hu
    rcases hu with (rfl | rfl) | hu
    · rfl
    · rfl
    · exact cls2_cells l u hu
theorem cl1_one (m : Cl) : ∀ u ∈ cl1 m, u.oneCell' = true := by rw [← cls2_one]; exact cls2_cells [m]
theorem cl1_at (w : World) (m : Cl) : ∀ (j : Nat) (u : Value), (cl1 m)[j]? = some u → (w.alloc (.cells #[.int .i64 m.1, .int .i64 m.2] 61)).cell? ((⟨w.heap.size, 0, none⟩ : Addr).add j) = some u := by
  intro j u hj
  match j, hj with
  | 0, hj => simp [cl1] at hj; subst hj; simp [Addr.add, go_sem]
  | 1, hj => simp [cl1] at hj; subst hj; simp [Addr.add, go_sem]
  | j + 2, hj => simp [cl1] at hj
/-- A row of claims of a call's own. -/
structure OwnC (w : World) (B : Nat) (A : Option Addr) (n c : Nat) (l : List Cl) : Prop where
  row : Row w 2 (.slice A n c) n (cls2 l)
  new : ∀ g, blk (.slice A n c) = some g → B ≤ g
theorem OwnC.nil (w : World) (B : Nat) : OwnC w B none 0 0 [] := ⟨row_nil _ _, fun g h => by cases h⟩
theorem OwnC.more {w w2 : World} {B : Nat} {A : Option Addr} {n c : Nat} {l : List Cl} (h : OwnC w B A n c l) (hB : B ≤ w.heap.size) (m : Cl) {x : Addr} {cap : Nat}
    (hr : Row w2 2 (.slice (some x) (n + 1) cap) (n + 1) (cls2 l ++ cl1 m)) (hb : blk (.slice (some x) (n + 1) cap) = blk (.slice A n c) ∨ ∃ g, blk (.slice (some x) (n + 1) cap) = some g ∧ w.heap.size ≤ g) : OwnC w2 B (some x) (n + 1) cap (l ++ [m]) := by
  refine ⟨by rw [← cls2_one, ← cls2_append] at hr; exact hr, fun g hg => ?_⟩
  rcases hb with e | ⟨g', e, hg'⟩
  · rw [e] at hg
    exact h.new g hg
  · rw [e] at hg
    obtain rfl := Option.some.inj hg
    omega
/-- A row may be read. -/
theorem OwnC.is {w : World} {B : Nat} {A : Option Addr} {n c : Nat} {l : List Cl} (h : OwnC w B A n c l) (hw : ∀ c ∈ l, (Lit.int .i64 c.1).wf = true ∧ (Lit.int .i64 c.2).wf = true) : IsC w A n l ∧ n ≤ c := by
  have hlen := h.row.length
  rw [cls2_length] at hlen
  rcases h.row.is with ⟨e, rfl⟩ | ⟨g, off, cap, e, hg, hnc, hcm, hcs, _⟩
  · injection e with e1 e2 e3
    exact ⟨⟨by omega, Nat.zero_le _, hw, fun h => by omega⟩, by omega⟩
  · injection e with e1 e2 e3
    subst e1 e3
    refine ⟨⟨by omega, Nat.le_trans hnc hcm, hw, fun _ => ⟨g, off, rfl, hg, fun i x hx => ?_⟩⟩, hnc⟩
    obtain ⟨q1, q2⟩ := cls2_get l i x hx
    exact ⟨hcs _ _ q1, by rw [Nat.add_assoc]; exact hcs _ _ q2⟩
end Go.Proofs.Ythpmodohfjjjcaa
