/- An array of one-cell elements that comes in by value: its elements, one by one. -/
import Derived.Test.YtoakjcmhmlngfaaClose
import Derived.ChangeSame
namespace Go.Proofs.Ytoakjcmhmlngfaa
open Go.RowKit Go.ChangeShapes Go.WideShapes Go.ChangeAt

theorem mapM_each {α β : Type} {f : α → Option β} : ∀ (L : List α) {ys : List β}, L.mapM f = some ys → ∀ i ∈ L, ∃ x, f i = some x
  | [], _, _, i, hi => by cases hi
  | a :: L, ys, h, i, hi => by
    rw [List.mapM_cons] at h
    simp only [bind, Option.bind_eq_some_iff, pure, Option.some.injEq] at h
    obtain ⟨y, hy, ys', hys, _⟩ := h
    rcases List.mem_cons.1 hi with rfl | hi
    · exact ⟨y, hy⟩
    · exact mapM_each L hys i hi
theorem opens_arr {H : Type} {enc : TypeId × Value → H} {P : Program} {W : World} {t e : TypeId} {n : Nat} {v : Value} {d : DataW H} {p : List MemPlace} {base : Nat}
    (ht : P.underlying t = some (.array n e)) (hC : P.cellsOf t = n) (hc : P.cellsOf e = 1) (hv : Value.okWide P W .any base t v) (h : DataW.Trod enc P W 0 (fun _ => true) true t v d p) :
    ∃ cs : List Value, v = .agg cs.toArray ∧ cs.length = n ∧ ∀ i (hi : i < cs.length), ∃ m x, DataW.trod enc P W 0 (fun _ => true) true m e [cs[i]] = some x := by
  obtain ⟨cs, rfl, hsz, _⟩ : ∃ cs, v = .agg cs ∧ cs.size = P.cellsOf t ∧ Row.okWide P W .any base t cs := by simpa [Value.okWide, ht] using hv
  rw [hC] at hsz
  obtain ⟨l⟩ := cs
  have hl : l.length = n := by simpa using hsz
  refine ⟨l, rfl, hl, fun i hi => ?_⟩
  obtain ⟨fuel, hf⟩ := h
  cases fuel with
  | zero => simp [DataW.trod] at hf
  | succ m =>
    rw [DataW.trod_step] at hf
    unfold DataW.trodStep at hf
    simp only [ht, Value.cells, hc] at hf
    rw [if_pos (by rw [hC]; simpa using hl)] at hf
    simp only [Option.map_eq_some_iff] at hf
    obtain ⟨ys, hy, _⟩ := hf
    obtain ⟨x, hx⟩ := mapM_each _ hy i (by simp; omega)
    refine ⟨m, x, ?_⟩
    have e1 : (l.drop (i * 1)).take 1 = [l[i]] := by
      rw [Nat.mul_one, List.drop_eq_getElem_cons hi]
      rfl
    rw [e1] at hx
    exact hx
/-- Two integers by value. -/
theorem opens_int2 {H : Type} {enc : TypeId × Value → H} {P : Program} {W : World} {t e : TypeId} {k : IntKind} {v : Value} {d : DataW H} {p : List MemPlace} {base : Nat}
    (ht : P.underlying t = some (.array 2 e)) (hC : P.cellsOf t = 2) (hc : P.cellsOf e = 1) (he : P.underlying e = some (.int k)) (hv : Value.okWide P W .any base t v) (h : DataW.Trod enc P W 0 (fun _ => true) true t v d p) :
    ∃ x y, v = .agg #[.int k x, .int k y] ∧ (Lit.int k x).wf = true ∧ (Lit.int k y).wf = true := by
  obtain ⟨cs, rfl, hl, hi⟩ := opens_arr ht hC hc hv h
  match cs, hl, hi with
  | [a, b], _, hi =>
    obtain ⟨m, z, h0⟩ := hi 0 (by simp)
    obtain ⟨m', z', h1⟩ := hi 1 (by simp)
    obtain ⟨x, e0, _, w0⟩ := DataW.trod_int he h0
    obtain ⟨y, e1, _, w1⟩ := DataW.trod_int he h1
    simp only [List.getElem_cons_zero, List.getElem_cons_succ, List.cons.injEq, and_true] at e0 e1
    subst e0 e1
    exact ⟨x, y, rfl, w0, w1⟩
/-- Three integers by value. -/
theorem opens_int3 {H : Type} {enc : TypeId × Value → H} {P : Program} {W : World} {t e : TypeId} {k : IntKind} {v : Value} {d : DataW H} {p : List MemPlace} {base : Nat}
    (ht : P.underlying t = some (.array 3 e)) (hC : P.cellsOf t = 3) (hc : P.cellsOf e = 1) (he : P.underlying e = some (.int k)) (hv : Value.okWide P W .any base t v) (h : DataW.Trod enc P W 0 (fun _ => true) true t v d p) :
    ∃ x y z, v = .agg #[.int k x, .int k y, .int k z] ∧ (Lit.int k x).wf = true ∧ (Lit.int k y).wf = true ∧ (Lit.int k z).wf = true := by
  obtain ⟨cs, rfl, hl, hi⟩ := opens_arr ht hC hc hv h
  match cs, hl, hi with
  | [a, b, c], _, hi =>
    obtain ⟨m, z, h0⟩ := hi 0 (by simp)
    obtain ⟨m', z', h1⟩ := hi 1 (by simp)
    obtain ⟨m'', z'', h2⟩ := hi 2 (by simp)
    obtain ⟨x, e0, _, w0⟩ := DataW.trod_int he h0
    obtain ⟨y, e1, _, w1⟩ := DataW.trod_int he h1
    obtain ⟨u, e2, _, w2⟩ := DataW.trod_int he h2
    simp only [List.getElem_cons_zero, List.getElem_cons_succ, List.cons.injEq, and_true] at e0 e1 e2
    subst e0 e1 e2
    exact ⟨x, y, u, rfl, w0, w1, w2⟩
/-- Two bools by value. -/
theorem opens_bool2 {H : Type} {enc : TypeId × Value → H} {P : Program} {W : World} {t e : TypeId} {v : Value} {d : DataW H} {p : List MemPlace} {base : Nat}
    (ht : P.underlying t = some (.array 2 e)) (hC : P.cellsOf t = 2) (hc : P.cellsOf e = 1) (he : P.underlying e = some .bool) (hv : Value.okWide P W .any base t v) (h : DataW.Trod enc P W 0 (fun _ => true) true t v d p) :
    ∃ x y, v = .agg #[.bool x, .bool y] := by
  obtain ⟨cs, rfl, hl, hi⟩ := opens_arr ht hC hc hv h
  match cs, hl, hi with
  | [a, b], _, hi =>
    obtain ⟨m, z, h0⟩ := hi 0 (by simp)
    obtain ⟨m', z', h1⟩ := hi 1 (by simp)
    obtain ⟨x, e0, _⟩ := DataW.trod_bool he h0
    obtain ⟨y, e1, _⟩ := DataW.trod_bool he h1
    simp only [List.getElem_cons_zero, List.getElem_cons_succ, List.cons.injEq, and_true] at e0 e1
    subst e0 e1
    exact ⟨x, y, rfl⟩
end Go.Proofs.Ytoakjcmhmlngfaa
