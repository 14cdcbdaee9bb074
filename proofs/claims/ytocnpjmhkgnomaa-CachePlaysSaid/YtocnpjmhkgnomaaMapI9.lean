/- Maps keyed by whole numbers, known by what they hold at each key, whatever their elements are; and slices that lie anywhere in a block, with what append makes of them. -/
import Derived.Test.YtocnpjmhkgnomaaChecked
import Derived.Test.YtocnpjmhkgnomaaClose
import Derived.Maps.RangeWalk
import Derived.ArgAppend
namespace Go.Proofs.Ytocnpjmhkgnomaa
open Go.RowKit Go.MapKept
open Go.ChangeMaps (setBlock heap_setBlock_same heap_setBlock_other)
open Go.WideElems (Fit rd rg pl rd_key rd_val rg_of rd_mk)
open Go.Maps (Keyed)

theorem vint {a b : Int} (h : Value.int .i64 a = Value.int .i64 b) : a = b := (Value.int.inj h).2
/-- What is told of an element: nothing. -/
def any0 (_ : Value) : Option (DataW Unit × List MemPlace) := some (.nil, [])
theorem keyI : Keyed Try.prog 3 := Maps.int_keyed Try.underlying3
theorem keyI_mk {k : Int} (h : (Lit.int .i64 k).wf = true) : keyOf Try.prog 3 (.int .i64 k) = some (.int .i64 k) := Maps.keyOf_int_mk Try.underlying3 h

/-- A block is a map of at most n entries that holds just this at each key. -/
def IsMap (w : World) (b n : Nat) (f : Int → Option Value) : Prop :=
  ∃ es clock, w.heap[b]? = some (.map es clock) ∧ Fit Try.prog 3 any0 es clock ∧ es.size ≤ n ∧
    (∀ x ∈ es.toList, ∃ i, (Lit.int .i64 i).wf = true ∧ x.key = .int .i64 i ∧ f i = some x.val) ∧ (∀ i v, f i = some v → ∃ x ∈ es.toList, x.key = .int .i64 i ∧ x.val = v)
theorem IsMap.block {w w' : World} {b n : Nat} {f : Int → Option Value} (h : IsMap w b n f) (hb : w'.heap[b]? = w.heap[b]?) : IsMap w' b n f := by
  obtain ⟨es, clock, h1, h2⟩ := h
  exact ⟨es, clock, hb.trans h1, h2⟩
theorem IsMap.lt {w : World} {b n : Nat} {f : Int → Option Value} (h : IsMap w b n f) : b < w.heap.size := by
  obtain ⟨es, clock, h1, _⟩ := h
  exact (Array.getElem?_eq_some_iff.1 h1).1
theorem IsMap.mono {w : World} {b n n' : Nat} {f : Int → Option Value} (h : IsMap w b n f) (hn : n ≤ n') : IsMap w b n' f := by
  obtain ⟨es, clock, h1, h2, h3, h4⟩ := h
  exact ⟨es, clock, h1, h2, Nat.le_trans h3 hn, h4⟩
theorem IsMap.later {S : Nat → Prop} {w w' : World} {b n : Nat} {f : Int → Option Value} (h : IsMap w b n f) (m : Mod S w w') (hs : ¬ S b) : IsMap w' b n f := h.block (m.block b h.lt hs)
theorem IsMap.made (w : World) : IsMap (w.alloc (.map #[] 0)) w.heap.size 0 (fun _ => none) :=
  ⟨#[], 0, (MapKept.heap_alloc w _).1, ⟨by simp, stamped_empty 0, by simp⟩, Nat.le_refl _, by simp, by simp⟩
theorem IsMap.keyWf {w : World} {b n : Nat} {f : Int → Option Value} (h : IsMap w b n f) {i : Int} {v : Value} (hv : f i = some v) : (Lit.int .i64 i).wf = true := by
  obtain ⟨es, clock, h1, h2, h3, h4, h5⟩ := h
  obtain ⟨x, hx, hk, _⟩ := h5 i v hv
  obtain ⟨i', hw, hk', _⟩ := h4 x hx
  rw [hk] at hk'
  have e := vint hk'
  rw [e]; exact hw
/-- A look-up. -/
theorem IsMap.look {w : World} {b n : Nat} {f : Int → Option Value} (h : IsMap w b n f) {t e : TypeId} (ht : Try.prog.underlying t = some (.map 3 e)) {z : Value} (hz : (zeroValue e).run Try.prog w = .ok z w) {k : Int} (hk : (Lit.int .i64 k).wf = true) :
    (Instr.lookup t (.map (some b)) (.int .i64 k) false).run Try.prog w = .ok ((f k).getD z) w := by
  obtain ⟨es, clock, h1, h2, h3, h4, h5⟩ := h
  rcases Maps.fit_look false keyI ht hz h1 h2 (keyI_mk hk) with ⟨hrun, hno, _⟩ | ⟨e0, y, hm, hkey, hrun, _⟩
  · have : f k = none := by
      cases hf : f k with
      | none => rfl
      | some v =>
        obtain ⟨x, hx, hxk, _⟩ := h5 k v hf
        exact absurd hxk (hno x hx)
    rw [this]
    exact hrun
  · obtain ⟨i, _, hi, hf⟩ := h4 e0 hm
    rw [hkey] at hi
    have e1 := vint hi
    subst e1
    rw [hf]
    exact hrun
/-- At one key another value. -/
def put (f : Int → Option Value) (k : Int) (v : Option Value) : Int → Option Value := fun i => if i = k then v else f i
theorem put_same (f : Int → Option Value) (k : Int) (v : Option Value) : put f k v k = v := if_pos rfl
theorem put_other (f : Int → Option Value) {k i : Int} (v : Option Value) (h : i ≠ k) : put f k v i = f i := if_neg h
theorem setBlock_mod {w : World} {b : Nat} {es : Array MapEntry} {clock : Nat} (hb : w.heap[b]? = some (.map es clock)) (o : Obj) : Mod (· = b) w (setBlock w b o) ∧ (setBlock w b o).heap.size = w.heap.size :=
  ⟨⟨rfl, rfl, rfl, by simp [setBlock], fun k _ hs => heap_setBlock_other hb _ hs⟩, by simp [setBlock]⟩
/-- A store. -/
theorem IsMap.store {w : World} {b n : Nat} {f : Int → Option Value} (h : IsMap w b n f) {t e : TypeId} (ht : Try.prog.underlying t = some (.map 3 e)) (hn : n < maxLen) {k : Int} (hk : (Lit.int .i64 k).wf = true) (v : Value) :
    ∃ w', (Instr.mapUpdate t (.map (some b)) (.int .i64 k) v).run Try.prog w = .ok () w' ∧ IsMap w' b (n + 1) (put f k (some v)) ∧ Mod (· = b) w w' ∧ w'.heap.size = w.heap.size := by
  obtain ⟨es, clock, h1, h2, h3, h4, h5⟩ := h
  obtain ⟨es', clock', hrun, F', hput, _, _, hwho⟩ := Maps.fit_store (R' := any0) keyI ht h1 h2 (Nat.lt_of_le_of_lt h3 hn) (fun _ _ _ _ hz => hz) (keyI_mk hk) (show any0 v = some (.nil, []) from rfl)
  have hsz : es'.size ≤ n + 1 := by
    have e1 : es'.size = ((es'.toList.map (rg Try.prog 3 any0)).foldr DataW.insert []).length := by rw [length_sorted]; simp
    rw [e1, hput]
    unfold ChangeMaps.putKey
    rw [length_insert]
    have e2 := List.length_filter_le (ChangeMaps.notKey (.int .i64 k)) ((es.toList.map (rg Try.prog 3 any0)).foldr DataW.insert [])
    rw [length_sorted] at e2
    simp at e2
    omega
  have hm := setBlock_mod h1 (.map es' clock')
  refine ⟨_, hrun, ⟨es', clock', heap_setBlock_same h1 _, F', hsz, ?_, ?_⟩, hm.1, hm.2⟩
  · intro x hx
    rcases hwho x hx with ⟨hx0, hne⟩ | ⟨hxk, hxv⟩
    · obtain ⟨i, hw, hi, hf⟩ := h4 x hx0
      refine ⟨i, hw, hi, ?_⟩
      rw [put_other _ _ (fun e => hne (by rw [hi, e]))]
      exact hf
    · exact ⟨k, hk, hxk, by rw [put_same, hxv]⟩
  · have hmem : ∀ i v', put f k (some v) i = some v' → (Lit.int .i64 i) ∈ (((es'.toList.map (rg Try.prog 3 any0)).foldr DataW.insert []).map (·.1)) := by
      intro i v' hv'
      rw [hput]
      unfold ChangeMaps.putKey
      by_cases e : i = k
      · subst e
        exact List.mem_map.2 ⟨_, ChangeMaps.mem_insert_iff.2 (.inl rfl), rfl⟩
      · rw [put_other _ _ e] at hv'
        obtain ⟨x, hx, hxk, _⟩ := h5 i v' hv'
        obtain ⟨i', hw, hi', _⟩ := h4 x hx
        obtain ⟨y, hy⟩ := h2.reads x hx
        have m1 := rd_key hy
        rw [hxk] at hi'
        have e2 := vint hi'
        subst e2
        rw [hxk, keyI_mk hw] at m1
        have hy1 : (rg Try.prog 3 any0 x).1 = .int .i64 i := by rw [rg_of hy]; exact (Option.some.inj m1).symm
        refine List.mem_map.2 ⟨rg Try.prog 3 any0 x, ChangeMaps.mem_insert_iff.2 (.inr (List.mem_filter.2 ⟨mem_sorted.2 (List.mem_map.2 ⟨x, hx, rfl⟩), ?_⟩)), hy1⟩
        rw [Maps.notKey_iff (keyI.key (keyI_mk hk)), hy1]
        intro e3
        injection e3 with _ e3
        exact e e3
    intro i v' hv'
    obtain ⟨p, hp, hpk⟩ := List.mem_map.1 (hmem i v' hv')
    obtain ⟨x, hx, rfl⟩ := List.mem_map.1 (mem_sorted.1 hp)
    obtain ⟨y, hy⟩ := F'.reads x hx
    have m1 := rd_key hy
    rw [rg_of hy] at hpk
    have hw : (Lit.int .i64 i).wf = true := by
      by_cases e : i = k
      · rw [e]; exact hk
      · rw [put_other _ _ e] at hv'
        obtain ⟨x, hx, hxk, _⟩ := h5 i v' hv'
        obtain ⟨i', hw, hi', _⟩ := h4 x hx
        rw [hxk] at hi'
        have e2 := vint hi'
        rw [e2]; exact hw
    have hxk : x.key = .int .i64 i := keyI.inj (by rw [m1, hpk]) (keyI_mk hw)
    refine ⟨x, hx, hxk, ?_⟩
    rcases hwho x hx with ⟨hx0, hne⟩ | ⟨hxk', hxv⟩
    · obtain ⟨i', hw', hi', hf⟩ := h4 x hx0
      rw [hxk] at hi'
      have e2 := vint hi'
      subst e2
      rw [put_other _ _ (fun e => hne (by rw [hxk, e]))] at hv'
      rw [hf] at hv'
      exact Option.some.inj hv'
    · rw [hxk] at hxk'
      have e2 := vint hxk'
      subst e2
      rw [put_same] at hv'
      rw [hxv]
      exact Option.some.inj hv'
/-- A key taken away. -/
theorem IsMap.drop {w : World} {b n : Nat} {f : Int → Option Value} (h : IsMap w b n f) {t e ty : TypeId} (ht : Try.prog.underlying t = some (.map 3 e)) {k : Int} (hk : (Lit.int .i64 k).wf = true) :
    ∃ w', (Builtin.delete_ #[t, 3] ty #[.map (some b), .int .i64 k]).run Try.prog w = .ok (.tuple #[]) w' ∧ IsMap w' b n (put f k none) ∧ Mod (· = b) w w' ∧ w'.heap.size = w.heap.size := by
  obtain ⟨es, clock, h1, h2, h3, h4, h5⟩ := h
  obtain ⟨es', hrun, F', hle, _, _, hwho⟩ := fit_drop_who (ty := ty) keyI ht h1 h2 (keyI_mk hk)
  have hm := setBlock_mod h1 (.map es' clock)
  refine ⟨_, hrun, ⟨es', clock, heap_setBlock_same h1 _, F', Nat.le_trans hle h3, ?_, ?_⟩, hm.1, hm.2⟩
  · intro x hx
    obtain ⟨hx0, hne⟩ := (hwho x).1 hx
    obtain ⟨i, hw, hi, hf⟩ := h4 x hx0
    refine ⟨i, hw, hi, ?_⟩
    rw [put_other _ _ (fun e => hne (by rw [hi, e]))]
    exact hf
  · intro i v hv
    by_cases e : i = k
    · rw [e, put_same] at hv
      cases hv
    · rw [put_other _ _ e] at hv
      obtain ⟨x, hx, hxk, hxv⟩ := h5 i v hv
      refine ⟨x, (hwho x).2 ⟨hx, ?_⟩, hxk, hxv⟩
      rw [hxk]
      intro e2
      injection e2 with _ e2
      exact e e2
theorem wpList_delete_map (w : World) {ops : Array Oper} {rest : List Oper} {o : Oper} {a : Act} {Q : Exit → Act → World → Prop} (hg : o.guard = none) (m x : Operand) (t : TypeId) (hop : o.op = Op.call { callee := Callee.builtin Builtin.delete, args := #[m, x], argTypes := #[t, 3] })
    (e : TypeId) (ht : Try.prog.underlying t = some (.map 3 e)) (b n : Nat) (f : Int → Option Value) (hm : a.eval m = .map (some b)) (h : IsMap w b n f) (k : Int) (hx : a.eval x = .int .i64 k) (hk : (Lit.int .i64 k).wf = true)
    (hK : ∀ w', IsMap w' b n (put f k none) → Mod (· = b) w w' → w'.heap.size = w.heap.size → wpList Try.prog ops Q rest (a.put o.dst (.tuple #[])) w') :
    wpList Try.prog ops Q (o :: rest) a w := by
  refine wpList_plain hg fun K' hK' => ?_
  obtain ⟨w', hrun, r1, r2, r3⟩ := h.drop (ty := o.type) ht hk
  unfold Oper.wp
  simp [execOp, hop, resolve, invoke, builtin, hm, hx, hrun, Result.andThen]
  exact hK' _ _ (hK w' r1 r2 r3)

end Go.Proofs.Ytocnpjmhkgnomaa
