/- A tree as it lies in memory, and its parts: maps, places, a walk, room, vacancy, setting, keeping, putting. -/
import Derived.Test.YtiomhdanmcnaeaaGreatDoorChecked
import Derived.Test.YtiomhdanmcnaeaaGreatDoorClose
import Derived.Maps.RangeWalk
import Derived.ArgAppend
import Derived.Test.YtiomhdanmcnaeaaGreatDoorFp15
import Derived.Test.YtiomhdanmcnaeaaGreatDoorIq14
import Derived.DeepKeys4
import Derived.Test.YtiomhdanmcnaeaaGreatDoorZn15
import Derived.Deep.DeepCutAuto
import Derived.Deep.CutBlock
import Derived.Maps.OwnSet
/-! Maps keyed by whole numbers, known by what they hold at each key, whatever their elements are; and slices that lie anywhere in a block, with what append makes of them. -/
section
namespace Go.Proofs.YtiomhdanmcnaeaaGreatDoor
open Go.RowKit Go.MapKept
open Go.ChangeMaps (setBlock heap_setBlock_same heap_setBlock_other)
open Go.WideElems (Fit rd rg pl rd_key rd_val rg_of rd_mk)
open Go.Maps (Keyed)

theorem vint {a b : Int} (h : Value.int .i64 a = Value.int .i64 b) : a = b := (Value.int.inj h).2
/-- What is told of an element: nothing. -/
def any0 (_ : Value) : Option (DataW Unit × List MemPlace) := some (.nil, [])
theorem keyI : Keyed Tryz.prog 3 := Maps.int_keyed Tryz.underlying3
theorem keyI_mk {k : Int} (h : (Lit.int .i64 k).wf = true) : keyOf Tryz.prog 3 (.int .i64 k) = some (.int .i64 k) := Maps.keyOf_int_mk Tryz.underlying3 h

/-- A block is a map of at most n entries that holds just this at each key. -/
def IsMap (w : World) (b n : Nat) (f : Int → Option Value) : Prop :=
  ∃ es clock, w.heap[b]? = some (.map es clock) ∧ Fit Tryz.prog 3 any0 es clock ∧ es.size ≤ n ∧
    (∀ x ∈ es.toList, ∃ i, (Lit.int .i64 i).wf = true ∧ x.key = .int .i64 i ∧ f i = some x.val) ∧ (∀ i v, f i = some v → ∃ x ∈ es.toList, x.key = .int .i64 i ∧ x.val = v)
theorem IsMap.block {w w' : World} {b n : Nat} {f : Int → Option Value} (h : IsMap w b n f) (hb : w'.heap[b]? = w.heap[b]?) : IsMap w' b n f := by
  obtain ⟨es, clock, h1, h2⟩ := h
  exact ⟨es, clock, hb.trans h1, h2⟩
theorem IsMap.lt {w : World} {b n : Nat} {f : Int → Option Value} (h : IsMap w b n f) : b < w.heap.size := by
  obtain ⟨es, clock, h1, _⟩ := h
  exact (Array.getElem?_eq_some_iff.1 h1).1
theorem IsMap.mono {w : World} {b n n' : Nat} {f : Int → Option Value} (h : IsMap w b n f) (hn : n ≤ n') : IsMap w b n' f := by
  obtain ⟨es, clock, h1, h2, h3, h4⟩ := h
  exact ⟨es, clock, h1, h2, Nat.le_trans h3 hn, h4⟩
theorem IsMap.later {S : Nat → Prop} {w w' : World} {b n : Nat} {f : Int → Option Value} (h : IsMap w b n f) (m : Mod S w w') (hs : ¬ S b) : IsMap w' b n f := h.block (m.block b h.lt hs)
theorem IsMap.made (w : World) : IsMap (w.alloc (.map #[] 0)) w.heap.size 0 (fun _ => none) :=
  ⟨#[], 0, (MapKept.heap_alloc w _).1, ⟨by simp, stamped_empty 0, by simp⟩, Nat.le_refl _, by simp, by simp⟩
theorem IsMap.keyWf {w : World} {b n : Nat} {f : Int → Option Value} (h : IsMap w b n f) {i : Int} {v : Value} (hv : f i = some v) : (Lit.int .i64 i).wf = true := by
  obtain ⟨es, clock, h1, h2, h3, h4, h5⟩ := h
  obtain ⟨x, hx, hk, _⟩ := h5 i v hv
  obtain ⟨i', hw, hk', _⟩ := h4 x hx
  rw [hk] at hk'
  have e := vint hk'
  rw [e]; exact hw
/-- A look-up. -/
theorem IsMap.look {w : World} {b n : Nat} {f : Int → Option Value} (h : IsMap w b n f) {t e : TypeId} (ht : Tryz.prog.underlying t = some (.map 3 e)) {z : Value} (hz : (zeroValue e).run Tryz.prog w = .ok z w) {k : Int} (hk : (Lit.int .i64 k).wf = true) :
    (Instr.lookup t (.map (some b)) (.int .i64 k) false).run Tryz.prog w = .ok ((f k).getD z) w := by
  obtain ⟨es, clock, h1, h2, h3, h4, h5⟩ := h
  rcases Maps.fit_look false keyI ht hz h1 h2 (keyI_mk hk) with ⟨hrun, hno, _⟩ | ⟨e0, y, hm, hkey, hrun, _⟩
  · have : f k = none := by
      cases hf : f k with
      | none => rfl
      | some v =>
        obtain ⟨x, hx, hxk, _⟩ := h5 k v hf
        exact absurd hxk (hno x hx)
    rw [this]
    exact hrun
  · obtain ⟨i, _, hi, hf⟩ := h4 e0 hm
    rw [hkey] at hi
    have e1 := vint hi
    subst e1
    rw [hf]
    exact hrun
/-- At one key another value. -/
def put (f : Int → Option Value) (k : Int) (v : Option Value) : Int → Option Value := fun i => if i = k then v else f i
theorem put_same (f : Int → Option Value) (k : Int) (v : Option Value) : put f k v k = v := if_pos rfl
theorem put_other (f : Int → Option Value) {k i : Int} (v : Option Value) (h : i ≠ k) : put f k v i = f i := if_neg h
theorem setBlock_mod {w : World} {b : Nat} {es : Array MapEntry} {clock : Nat} (hb : w.heap[b]? = some (.map es clock)) (o : Obj) : Mod (· = b) w (setBlock w b o) ∧ (setBlock w b o).heap.size = w.heap.size :=
  ⟨⟨rfl, rfl, rfl, by simp [setBlock], fun k _ hs => heap_setBlock_other hb _ hs⟩, by simp [setBlock]⟩
/-- A store. -/
theorem IsMap.store {w : World} {b n : Nat} {f : Int → Option Value} (h : IsMap w b n f) {t e : TypeId} (ht : Tryz.prog.underlying t = some (.map 3 e)) (hn : n < maxLen) {k : Int} (hk : (Lit.int .i64 k).wf = true) (v : Value) :
    ∃ w', (Instr.mapUpdate t (.map (some b)) (.int .i64 k) v).run Tryz.prog w = .ok () w' ∧ IsMap w' b (n + 1) (put f k (some v)) ∧ Mod (· = b) w w' ∧ w'.heap.size = w.heap.size := by
  obtain ⟨es, clock, h1, h2, h3, h4, h5⟩ := h
  obtain ⟨es', clock', hrun, F', hput, _, _, hwho⟩ := Maps.fit_store (R' := any0) keyI ht h1 h2 (Nat.lt_of_le_of_lt h3 hn) (fun _ _ _ _ hz => hz) (keyI_mk hk) (show any0 v = some (.nil, []) from rfl)
  have hsz : es'.size ≤ n + 1 := by
    have e1 : es'.size = ((es'.toList.map (rg Tryz.prog 3 any0)).foldr DataW.insert []).length := by rw [length_sorted]; simp
    rw [e1, hput]
    unfold ChangeMaps.putKey
    rw [length_insert]
    have e2 := List.length_filter_le (ChangeMaps.notKey (.int .i64 k)) ((es.toList.map (rg Tryz.prog 3 any0)).foldr DataW.insert [])
    rw [length_sorted] at e2
    simp at e2
    omega
  have hm := setBlock_mod h1 (.map es' clock')
  refine ⟨_, hrun, ⟨es', clock', heap_setBlock_same h1 _, F', hsz, ?_, ?_⟩, hm.1, hm.2⟩
  · intro x hx
    rcases hwho x hx with ⟨hx0, hne⟩ | ⟨hxk, hxv⟩
    · obtain ⟨i, hw, hi, hf⟩ := h4 x hx0
      refine ⟨i, hw, hi, ?_⟩
      rw [put_other _ _ (fun e => hne (by rw [hi, e]))]
      exact hf
    · exact ⟨k, hk, hxk, by rw [put_same, hxv]⟩
  · have hmem : ∀ i v', put f k (some v) i = some v' → (Lit.int .i64 i) ∈ (((es'.toList.map (rg Tryz.prog 3 any0)).foldr DataW.insert []).map (·.1)) := by
      intro i v' hv'
      rw [hput]
      unfold ChangeMaps.putKey
      by_cases e : i = k
      · subst e
        exact List.mem_map.2 ⟨_, ChangeMaps.mem_insert_iff.2 (.inl rfl), rfl⟩
      · rw [put_other _ _ e] at hv'
        obtain ⟨x, hx, hxk, _⟩ := h5 i v' hv'
        obtain ⟨i', hw, hi', _⟩ := h4 x hx
        obtain ⟨y, hy⟩ := h2.reads x hx
        have m1 := rd_key hy
        rw [hxk] at hi'
        have e2 := vint hi'
        subst e2
        rw [hxk, keyI_mk hw] at m1
        have hy1 : (rg Tryz.prog 3 any0 x).1 = .int .i64 i := by rw [rg_of hy]; exact (Option.some.inj m1).symm
        refine List.mem_map.2 ⟨rg Tryz.prog 3 any0 x, ChangeMaps.mem_insert_iff.2 (.inr (List.mem_filter.2 ⟨mem_sorted.2 (List.mem_map.2 ⟨x, hx, rfl⟩), ?_⟩)), hy1⟩
        rw [Maps.notKey_iff (keyI.key (keyI_mk hk)), hy1]
        intro e3
        injection e3 with _ e3
        exact e e3
    intro i v' hv'
    obtain ⟨p, hp, hpk⟩ := List.mem_map.1 (hmem i v' hv')
    obtain ⟨x, hx, rfl⟩ := List.mem_map.1 (mem_sorted.1 hp)
    obtain ⟨y, hy⟩ := F'.reads x hx
    have m1 := rd_key hy
    rw [rg_of hy] at hpk
    have hw : (Lit.int .i64 i).wf = true := by
      by_cases e : i = k
      · rw [e]; exact hk
      · rw [put_other _ _ e] at hv'
        obtain ⟨x, hx, hxk, _⟩ := h5 i v' hv'
        obtain ⟨i', hw, hi', _⟩ := h4 x hx
        rw [hxk] at hi'
        have e2 := vint hi'
        rw [e2]; exact hw
    have hxk : x.key = .int .i64 i := keyI.inj (by rw [m1, hpk]) (keyI_mk hw)
    refine ⟨x, hx, hxk, ?_⟩
    rcases hwho x hx with ⟨hx0, hne⟩ | ⟨hxk', hxv⟩
    · obtain ⟨i', hw', hi', hf⟩ := h4 x hx0
      rw [hxk] at hi'
      have e2 := vint hi'
      subst e2
      rw [put_other _ _ (fun e => hne (by rw [hxk, e]))] at hv'
      rw [hf] at hv'
      exact Option.some.inj hv'
    · rw [hxk] at hxk'
      have e2 := vint hxk'
      subst e2
      rw [put_same] at hv'
      rw [hxv]
      exact Option.some.inj hv'
/-- A key taken away. -/
theorem IsMap.drop {w : World} {b n : Nat} {f : Int → Option Value} (h : IsMap w b n f) {t e ty : TypeId} (ht : Tryz.prog.underlying t = some (.map 3 e)) {k : Int} (hk : (Lit.int .i64 k).wf = true) :
    ∃ w', (Builtin.delete_ #[t, 3] ty #[.map (some b), .int .i64 k]).run Tryz.prog w = .ok (.tuple #[]) w' ∧ IsMap w' b n (put f k none) ∧ Mod (· = b) w w' ∧ w'.heap.size = w.heap.size := by
  obtain ⟨es, clock, h1, h2, h3, h4, h5⟩ := h
  obtain ⟨es', hrun, F', hle, _, _, hwho⟩ := fit_drop_who (ty := ty) keyI ht h1 h2 (keyI_mk hk)
  have hm := setBlock_mod h1 (.map es' clock)
  refine ⟨_, hrun, ⟨es', clock, heap_setBlock_same h1 _, F', Nat.le_trans hle h3, ?_, ?_⟩, hm.1, hm.2⟩
  · intro x hx
    obtain ⟨hx0, hne⟩ := (hwho x).1 hx
    obtain ⟨i, hw, hi, hf⟩ := h4 x hx0
    refine ⟨i, hw, hi, ?_⟩
    rw [put_other _ _ (fun e => hne (by rw [hi, e]))]
    exact hf
  · intro i v hv
    by_cases e : i = k
    · rw [e, put_same] at hv
      cases hv
    · rw [put_other _ _ e] at hv
      obtain ⟨x, hx, hxk, hxv⟩ := h5 i v hv
      refine ⟨x, (hwho x).2 ⟨hx, ?_⟩, hxk, hxv⟩
      rw [hxk]
      intro e2
      injection e2 with _ e2
      exact e e2
theorem wpList_delete_map (w : World) {ops : Array Oper} {rest : List Oper} {o : Oper} {a : Act} {Q : Exit → Act → World → Prop} (hg : o.guard = none) (m x : Operand) (t : TypeId) (hop : o.op = Op.call { callee := Callee.builtin Builtin.delete, args := #[m, x], argTypes := #[t, 3] })
    (e : TypeId) (ht : Tryz.prog.underlying t = some (.map 3 e)) (b n : Nat) (f : Int → Option Value) (hm : a.eval m = .map (some b)) (h : IsMap w b n f) (k : Int) (hx : a.eval x = .int .i64 k) (hk : (Lit.int .i64 k).wf = true)
    (hK : ∀ w', IsMap w' b n (put f k none) → Mod (· = b) w w' → w'.heap.size = w.heap.size → wpList Tryz.prog ops Q rest (a.put o.dst (.tuple #[])) w') :
    wpList Tryz.prog ops Q (o :: rest) a w := by
  refine wpList_plain hg fun K' hK' => ?_
  obtain ⟨w', hrun, r1, r2, r3⟩ := h.drop (ty := o.type) ht hk
  unfold Oper.wp
  simp [execOp, hop, resolve, invoke, builtin, hm, hx, hrun, Result.andThen]
  exact hK' _ _ (hK w' r1 r2 r3)

end Go.Proofs.YtiomhdanmcnaeaaGreatDoor
end

/-! Maps keyed by what has a law of its own (structs), known by what they hold at each key. -/
section
namespace Go.Proofs.YtiomhdanmcnaeaaGreatDoor
open Go.RowKit Go.MapKept
open Go.ChangeMaps (setBlock heap_setBlock_same heap_setBlock_other)
open Go.WideElems (Fit rd rg pl rd_key rd_val rg_of rd_mk)
open Go.Maps (Keyed)

/-- A kind of keys: their type, how each is spelled, how it reads. -/
structure KeyD (K : Type) where
  t : TypeId
  v : K → Value
  l : K → Lit
  ok : K → Prop
  law : Keyed Tryz.prog t
  rds : ∀ {k : K}, ok k → keyOf Tryz.prog t (v k) = some (l k)
  inj : ∀ {a b : K}, v a = v b → a = b
theorem KeyD.linj {K : Type} (D : KeyD K) {a b : K} (ha : D.ok a) (hb : D.ok b) (h : D.l a = D.l b) : a = b := D.inj (D.law.inj (D.rds ha) (by rw [h]; exact D.rds hb))
section
variable {K : Type} (D : KeyD K)
/-- A block is a map of at most n entries that holds just this at each key. -/
def IsMapK (w : World) (b n : Nat) (f : K → Option Value) : Prop :=
  ∃ es clock, w.heap[b]? = some (.map es clock) ∧ Fit Tryz.prog D.t any0 es clock ∧ es.size ≤ n ∧
    (∀ x ∈ es.toList, ∃ i, D.ok i ∧ x.key = D.v i ∧ f i = some x.val) ∧ (∀ i v, f i = some v → ∃ x ∈ es.toList, x.key = D.v i ∧ x.val = v)
variable {D}
theorem IsMapK.block {w w' : World} {b n : Nat} {f : K → Option Value} (h : IsMapK D w b n f) (hb : w'.heap[b]? = w.heap[b]?) : IsMapK D w' b n f := by
  obtain ⟨es, clock, h1, h2⟩ := h
  exact ⟨es, clock, hb.trans h1, h2⟩
theorem IsMapK.lt {w : World} {b n : Nat} {f : K → Option Value} (h : IsMapK D w b n f) : b < w.heap.size := by
  obtain ⟨es, clock, h1, _⟩ := h
  exact (Array.getElem?_eq_some_iff.1 h1).1
theorem IsMapK.mono {w : World} {b n n' : Nat} {f : K → Option Value} (h : IsMapK D w b n f) (hn : n ≤ n') : IsMapK D w b n' f := by
  obtain ⟨es, clock, h1, h2, h3, h4⟩ := h
  exact ⟨es, clock, h1, h2, Nat.le_trans h3 hn, h4⟩
theorem IsMapK.later {S : Nat → Prop} {w w' : World} {b n : Nat} {f : K → Option Value} (h : IsMapK D w b n f) (m : Mod S w w') (hs : ¬ S b) : IsMapK D w' b n f := h.block (m.block b h.lt hs)
theorem IsMapK.made (w : World) : IsMapK D (w.alloc (.map #[] 0)) w.heap.size 0 (fun _ => none) :=
  ⟨#[], 0, (MapKept.heap_alloc w _).1, ⟨by simp, stamped_empty 0, by simp⟩, Nat.le_refl _, by simp, by simp⟩
theorem IsMapK.keyWf {w : World} {b n : Nat} {f : K → Option Value} (h : IsMapK D w b n f) {i : K} {v : Value} (hv : f i = some v) : D.ok i := by
  obtain ⟨es, clock, h1, h2, h3, h4, h5⟩ := h
  obtain ⟨x, hx, hk, _⟩ := h5 i v hv
  obtain ⟨i', hw, hk', _⟩ := h4 x hx
  rw [hk] at hk'
  have e := D.inj hk'
  rw [e]; exact hw
/-- A look-up. -/
theorem IsMapK.look {w : World} {b n : Nat} {f : K → Option Value} (h : IsMapK D w b n f) {t e : TypeId} (ht : Tryz.prog.underlying t = some (.map D.t e)) {z : Value} (hz : (zeroValue e).run Tryz.prog w = .ok z w) {k : K} (hk : D.ok k) :
    (Instr.lookup t (.map (some b)) (D.v k) false).run Tryz.prog w = .ok ((f k).getD z) w := by
  obtain ⟨es, clock, h1, h2, h3, h4, h5⟩ := h
  rcases Maps.fit_look false D.law ht hz h1 h2 (D.rds hk) with ⟨hrun, hno, _⟩ | ⟨e0, y, hm, hkey, hrun, _⟩
  · have : f k = none := by
      cases hf : f k with
      | none => rfl
      | some v =>
        obtain ⟨x, hx, hxk, _⟩ := h5 k v hf
        exact absurd hxk (hno x hx)
    rw [this]
    exact hrun
  · obtain ⟨i, _, hi, hf⟩ := h4 e0 hm
    rw [hkey] at hi
    have e1 := D.inj hi
    subst e1
    rw [hf]
    exact hrun
/-- A look-up that tells whether there is one. -/
theorem IsMapK.look2 {w : World} {b n : Nat} {f : K → Option Value} (h : IsMapK D w b n f) {t e : TypeId} (ht : Tryz.prog.underlying t = some (.map D.t e)) {z : Value} (hz : (zeroValue e).run Tryz.prog w = .ok z w) {k : K} (hk : D.ok k) :
    (Instr.lookup t (.map (some b)) (D.v k) true).run Tryz.prog w = .ok (.tuple #[(f k).getD z, .bool (f k).isSome]) w := by
  obtain ⟨es, clock, h1, h2, h3, h4, h5⟩ := h
  rcases Maps.fit_look true D.law ht hz h1 h2 (D.rds hk) with ⟨hrun, hno, _⟩ | ⟨e0, y, hm, hkey, hrun, _⟩
  · have : f k = none := by
      cases hf : f k with
      | none => rfl
      | some v =>
        obtain ⟨x, hx, hxk, _⟩ := h5 k v hf
        exact absurd hxk (hno x hx)
    rw [this]
    exact hrun
  · obtain ⟨i, _, hi, hf⟩ := h4 e0 hm
    rw [hkey] at hi
    have e1 := D.inj hi
    subst e1
    rw [hf]
    exact hrun
variable [DecidableEq K]
/-- At one key another value. -/
def putK (f : K → Option Value) (k : K) (v : Option Value) : K → Option Value := fun i => if i = k then v else f i
theorem putK_same (f : K → Option Value) (k : K) (v : Option Value) : putK f k v k = v := if_pos rfl
theorem putK_other (f : K → Option Value) {k i : K} (v : Option Value) (h : i ≠ k) : putK f k v i = f i := if_neg h
/-- A store. -/
theorem IsMapK.store {w : World} {b n : Nat} {f : K → Option Value} (h : IsMapK D w b n f) {t e : TypeId} (ht : Tryz.prog.underlying t = some (.map D.t e)) (hn : n < maxLen) {k : K} (hk : D.ok k) (v : Value) :
    ∃ w', (Instr.mapUpdate t (.map (some b)) (D.v k) v).run Tryz.prog w = .ok () w' ∧ IsMapK D w' b (n + 1) (putK f k (some v)) ∧ Mod (· = b) w w' ∧ w'.heap.size = w.heap.size := by
  obtain ⟨es, clock, h1, h2, h3, h4, h5⟩ := h
  obtain ⟨es', clock', hrun, F', hput, _, _, hwho⟩ := Maps.fit_store (R' := any0) D.law ht h1 h2 (Nat.lt_of_le_of_lt h3 hn) (fun _ _ _ _ hz => hz) (D.rds hk) (show any0 v = some (.nil, []) from rfl)
  have hsz : es'.size ≤ n + 1 := by
    have e1 : es'.size = ((es'.toList.map (rg Tryz.prog D.t any0)).foldr DataW.insert []).length := by rw [length_sorted]; simp
    rw [e1, hput]
    unfold ChangeMaps.putKey
    rw [length_insert]
    have e2 := List.length_filter_le (ChangeMaps.notKey (D.l k)) ((es.toList.map (rg Tryz.prog D.t any0)).foldr DataW.insert [])
    rw [length_sorted] at e2
    simp at e2
    omega
  have hm := setBlock_mod h1 (.map es' clock')
  refine ⟨_, hrun, ⟨es', clock', heap_setBlock_same h1 _, F', hsz, ?_, ?_⟩, hm.1, hm.2⟩
  · intro x hx
    rcases hwho x hx with ⟨hx0, hne⟩ | ⟨hxk, hxv⟩
    · obtain ⟨i, hw, hi, hf⟩ := h4 x hx0
      refine ⟨i, hw, hi, ?_⟩
      rw [putK_other _ _ (fun e => hne (by rw [hi, e]))]
      exact hf
    · exact ⟨k, hk, hxk, by rw [putK_same, hxv]⟩
  · have hmem : ∀ i v', putK f k (some v) i = some v' → D.l i ∈ (((es'.toList.map (rg Tryz.prog D.t any0)).foldr DataW.insert []).map (·.1)) := by
      intro i v' hv'
      rw [hput]
      unfold ChangeMaps.putKey
      by_cases e : i = k
      · subst e
        exact List.mem_map.2 ⟨_, ChangeMaps.mem_insert_iff.2 (.inl rfl), rfl⟩
      · rw [putK_other _ _ e] at hv'
        obtain ⟨x, hx, hxk, _⟩ := h5 i v' hv'
        obtain ⟨i', hw, hi', _⟩ := h4 x hx
        obtain ⟨y, hy⟩ := h2.reads x hx
        have m1 := rd_key hy
        rw [hxk] at hi'
        have e2 := D.inj hi'
        subst e2
        rw [hxk, D.rds hw] at m1
        have hy1 : (rg Tryz.prog D.t any0 x).1 = D.l i := by rw [rg_of hy]; exact (Option.some.inj m1).symm
        refine List.mem_map.2 ⟨rg Tryz.prog D.t any0 x, ChangeMaps.mem_insert_iff.2 (.inr (List.mem_filter.2 ⟨mem_sorted.2 (List.mem_map.2 ⟨x, hx, rfl⟩), ?_⟩)), hy1⟩
        rw [Maps.notKey_iff (D.law.key (D.rds hk)), hy1]
        intro e3
        exact e (D.linj hw hk e3)
    intro i v' hv'
    obtain ⟨p, hp, hpk⟩ := List.mem_map.1 (hmem i v' hv')
    obtain ⟨x, hx, rfl⟩ := List.mem_map.1 (mem_sorted.1 hp)
    obtain ⟨y, hy⟩ := F'.reads x hx
    have m1 := rd_key hy
    rw [rg_of hy] at hpk
    have hw : D.ok i := by
      by_cases e : i = k
      · rw [e]; exact hk
      · rw [putK_other _ _ e] at hv'
        obtain ⟨x, hx, hxk, _⟩ := h5 i v' hv'
        obtain ⟨i', hw, hi', _⟩ := h4 x hx
        rw [hxk] at hi'
        have e2 := D.inj hi'
        rw [e2]; exact hw
    have hxk : x.key = D.v i := D.law.inj (by rw [m1, hpk]) (D.rds hw)
    refine ⟨x, hx, hxk, ?_⟩
    rcases hwho x hx with ⟨hx0, hne⟩ | ⟨hxk', hxv⟩
    · obtain ⟨i', hw', hi', hf⟩ := h4 x hx0
      rw [hxk] at hi'
      have e2 := D.inj hi'
      subst e2
      rw [putK_other _ _ (fun e => hne (by rw [hxk, e]))] at hv'
      rw [hf] at hv'
      exact Option.some.inj hv'
    · rw [hxk] at hxk'
      have e2 := D.inj hxk'
      subst e2
      rw [putK_same] at hv'
      rw [hxv]
      exact Option.some.inj hv'
/-- A key taken away. -/
theorem IsMapK.drop {w : World} {b n : Nat} {f : K → Option Value} (h : IsMapK D w b n f) {t e ty : TypeId} (ht : Tryz.prog.underlying t = some (.map D.t e)) {k : K} (hk : D.ok k) :
    ∃ w', (Builtin.delete_ #[t, D.t] ty #[.map (some b), D.v k]).run Tryz.prog w = .ok (.tuple #[]) w' ∧ IsMapK D w' b n (putK f k none) ∧ Mod (· = b) w w' ∧ w'.heap.size = w.heap.size := by
  obtain ⟨es, clock, h1, h2, h3, h4, h5⟩ := h
  obtain ⟨es', hrun, F', hle, _, _, hwho⟩ := fit_drop_who (ty := ty) D.law ht h1 h2 (D.rds hk)
  have hm := setBlock_mod h1 (.map es' clock)
  refine ⟨_, hrun, ⟨es', clock, heap_setBlock_same h1 _, F', Nat.le_trans hle h3, ?_, ?_⟩, hm.1, hm.2⟩
  · intro x hx
    obtain ⟨hx0, hne⟩ := (hwho x).1 hx
    obtain ⟨i, hw, hi, hf⟩ := h4 x hx0
    refine ⟨i, hw, hi, ?_⟩
    rw [putK_other _ _ (fun e => hne (by rw [hi, e]))]
    exact hf
  · intro i v hv
    by_cases e : i = k
    · rw [e, putK_same] at hv
      cases hv
    · rw [putK_other _ _ e] at hv
      obtain ⟨x, hx, hxk, hxv⟩ := h5 i v hv
      refine ⟨x, (hwho x).2 ⟨hx, ?_⟩, hxk, hxv⟩
      rw [hxk]
      intro e2
      exact e (D.inj e2)
theorem wpList_delete_mapK (w : World) {ops : Array Oper} {rest : List Oper} {o : Oper} {a : Act} {Q : Exit → Act → World → Prop} (hg : o.guard = none) (m x : Operand) (t : TypeId) (hop : o.op = Op.call { callee := Callee.builtin Builtin.delete, args := #[m, x], argTypes := #[t, D.t] })
    (e : TypeId) (ht : Tryz.prog.underlying t = some (.map D.t e)) (b n : Nat) (f : K → Option Value) (hm : a.eval m = .map (some b)) (h : IsMapK D w b n f) (k : K) (hx : a.eval x = D.v k) (hk : D.ok k)
    (hK : ∀ w', IsMapK D w' b n (putK f k none) → Mod (· = b) w w' → w'.heap.size = w.heap.size → wpList Tryz.prog ops Q rest (a.put o.dst (.tuple #[])) w') :
    wpList Tryz.prog ops Q (o :: rest) a w := by
  refine wpList_plain hg fun K' hK' => ?_
  obtain ⟨w', hrun, r1, r2, r3⟩ := h.drop (ty := o.type) ht hk
  unfold Oper.wp
  simp [execOp, hop, resolve, invoke, builtin, hm, hx, hrun, Result.andThen]
  exact hK' _ _ (hK w' r1 r2 r3)

end
end Go.Proofs.YtiomhdanmcnaeaaGreatDoor
end

/-! A tree as it lies in memory: its number of free sectors, its last number, its things by number and its lists by place. -/
section
namespace Go.Proofs.YtiomhdanmcnaeaaGreatDoor
open Go.RowKit

/-- A thing: its kind, how many names it has, its bytes. -/
abbrev Thg := Int × Int × List UInt8
@[reducible] def thV (x : Thg) : Value := .agg #[.int .i64 x.1, .int .i64 x.2.1, .string (str x.2.2)]
/-- A place: a folder's number, and a zone. -/
abbrev Pl := Int × Int
@[reducible] def plV (p : Pl) : Value := .agg #[.int .i64 p.1, .int .i64 p.2]
theorem laidO : laidOutB Tryz.prog = true := by kernel_rfl
theorem plRow : (71 : TypeId) < Tryz.prog.types.size := of_decide_eq_true (by kernel_rfl)
theorem plWide : (match Tryz.prog.underlying 71 with | some (.array _ _) | some (.struct _) => true | _ => false) = true := by kernel_rfl
set_option maxRecDepth 100000 in
theorem plLaw : WideMaps.KeyLaw Tryz.prog 71 := deep_law_laid laidO (m := 3) (by omega) plRow (by kernel_rfl) plWide
theorem plCells : Tryz.prog.cellsOf 71 = 2 := by kernel_rfl
set_option maxRecDepth 100000 in
theorem plKey {p : Pl} (h1 : (Lit.int .i64 p.1).wf = true) (h2 : (Lit.int .i64 p.2).wf = true) : ∃ l, keyOf Tryz.prog 71 (plV p) = some l := by
  have hc : Tryz.prog.cellsOf 3 = 1 := by kernel_rfl
  have hkt : Tryz.prog.keyType 71 = true := by kernel_rfl
  have hf : Value.formed Tryz.prog 71 (plV p) = true := by simp [Value.formed, Tryz.underlying71, plCells]
  obtain ⟨d, hd⟩ : ∃ d, Tryz.prog.types.size = d + 1 := ⟨_, (Nat.succ_pred_eq_of_pos (Nat.lt_of_le_of_lt (Nat.zero_le _) plRow)).symm⟩
  simp only [keyOf, Tryz.underlying71, hkt, hf, Bool.and_self, if_true, hd]
  have e : (plV p).cells.toList = [.int .i64 p.1, .int .i64 p.2] := rfl
  rw [e]
  simp [Program.keyLits, Tryz.underlying71, Tryz.underlying3, plCells, hc, h1, h2]
def intD : KeyD Int := ⟨3, .int .i64, .int .i64, fun k => (Lit.int .i64 k).wf = true, keyI, fun h => keyI_mk h, fun h => vint h⟩
noncomputable def plD : KeyD Pl := ⟨71, plV, fun p => (keyOf Tryz.prog 71 (plV p)).getD (.int .i64 0), fun p => (Lit.int .i64 p.1).wf = true ∧ (Lit.int .i64 p.2).wf = true, Maps.Keyed.of_law plLaw, fun {p} h => by
  obtain ⟨l, hl⟩ := plKey h.1 h.2
  rw [hl]; rfl, fun {a b} h => by
  obtain ⟨a1, a2⟩ := a
  obtain ⟨b1, b2⟩ := b
  simp [plV] at h
  rw [h.1, h.2]⟩
/-- A map, or none at all. -/
def MapO {K : Type} (D : KeyD K) (w : World) (m : Option Nat) (n : Nat) (f : K → Option Value) : Prop :=
  match m with
  | none => ∀ k, f k = none
  | some b => IsMapK D w b n f
structure Tr where
  free : Int
  last : Int
  th : Int → Option Thg
  ls : Pl → Option (List Ent)
/-- The blocks that a tree's calls write into. -/
def OwnT (b : Nat) (mt ml : Option Nat) : Nat → Prop := fun g => g = b ∨ mt = some g ∨ ml = some g
def LsAt (w : World) (S : Nat → Prop) (v : Option Value) (l : Option (List Ent)) : Prop :=
  match v, l with
  | none, none => True
  | some v, some l => RG w 2 encN v l ∧ ∀ g, blk v = some g → ¬ S g
  | _, _ => False
structure IsT (w : World) (b : Nat) (mt ml : Option Nat) (n : Nat) (T : Tr) : Prop where
  c0 : w.cell? ⟨b, 0, none⟩ = some (.int .i64 T.free)
  c1 : w.cell? ⟨b, 1, none⟩ = some (.int .i64 T.last)
  c2 : w.cell? ⟨b, 2, none⟩ = some (.map mt)
  c3 : w.cell? ⟨b, 3, none⟩ = some (.map ml)
  fr : ∀ o, o < 4 → w.frozen? ⟨b, o, none⟩ = false
  th : MapO intD w mt n (fun k => (T.th k).map thV)
  ls : ∃ g, MapO plD w ml n g ∧ ∀ p, LsAt w (OwnT b mt ml) (g p) (T.ls p)
  bt : mt ≠ some b
  bl : ml ≠ some b
  tl : ∀ q, mt = some q → ml ≠ some q
  p0 : ¬ OwnT b mt ml 0
section
variable {w w' : World} {b n : Nat} {mt ml : Option Nat} {T : Tr}
theorem MapO.later {K : Type} {D : KeyD K} {S : Nat → Prop} {m : Option Nat} {f : K → Option Value} (h : MapO D w m n f) (k : Mod S w w') (hs : ∀ g, m = some g → ¬ S g) : MapO D w' m n f := by
  cases m with
  | none => exact h
  | some g => exact IsMapK.later h k (hs g rfl)
theorem MapO.lt {K : Type} {D : KeyD K} {m : Option Nat} {f : K → Option Value} (h : MapO D w m n f) {g : Nat} (hg : m = some g) : g < w.heap.size := by
  subst hg
  exact IsMapK.lt h
theorem IsT.lt (h : IsT w b mt ml n T) : b < w.heap.size := lt_of_cell h.c0
theorem LsAt.later {S R : Nat → Prop} {v : Option Value} {l : Option (List Ent)} (h : LsAt w S v l) (k : Mod R w w') (hs : ∀ u g, v = some u → blk u = some g → ¬ R g) : LsAt w' S v l := by
  cases v with
  | none => cases l with
    | none => trivial
    | some l => exact h
  | some v => cases l with
    | none => exact h
    | some l => exact ⟨h.1.later k (fun g hg => hs v g rfl hg), h.2⟩
theorem IsT.below (h : IsT w b mt ml n T) (k : Below w.heap.size w w') : IsT w' b mt ml n T := by
  have m := Mod.of_below (S := fun _ => False) k
  obtain ⟨g, h1, h2⟩ := h.ls
  exact ⟨(m.cell (p := ⟨b, 0, none⟩) h.lt id).trans h.c0, (m.cell (p := ⟨b, 1, none⟩) h.lt id).trans h.c1, (m.cell (p := ⟨b, 2, none⟩) h.lt id).trans h.c2, (m.cell (p := ⟨b, 3, none⟩) h.lt id).trans h.c3,
    fun o ho => (m.frozen (p := ⟨b, o, none⟩) h.lt id).trans (h.fr o ho), h.th.later m (fun _ _ => id), ⟨g, h1.later m (fun _ _ => id), fun p => (h2 p).later m (fun _ _ _ _ => id)⟩, h.bt, h.bl, h.tl, h.p0⟩
/-- What has turned no block that it had. -/
theorem IsT.later {S : Nat → Prop} (h : IsT w b mt ml n T) (m : Mod S w w') (hs : ∀ g, g < w.heap.size → ¬ S g) : IsT w' b mt ml n T := by
  obtain ⟨g, h1, h2⟩ := h.ls
  have hb := hs b h.lt
  exact ⟨(m.cell (p := ⟨b, 0, none⟩) h.lt hb).trans h.c0, (m.cell (p := ⟨b, 1, none⟩) h.lt hb).trans h.c1, (m.cell (p := ⟨b, 2, none⟩) h.lt hb).trans h.c2, (m.cell (p := ⟨b, 3, none⟩) h.lt hb).trans h.c3,
    fun o ho => (m.frozen (p := ⟨b, o, none⟩) h.lt hb).trans (h.fr o ho), h.th.later m (fun q e => hs q (h.th.lt e)), ⟨g, h1.later m (fun q e => hs q (h1.lt e)), fun p => (h2 p).later m (fun u q e eq => hs q (by
      have h3 := h2 p
      rw [e] at h3
      cases hl : T.ls p with
      | none => rw [hl] at h3; exact h3.elim
      | some l => rw [hl] at h3; exact h3.1.lt eq))⟩, h.bt, h.bl, h.tl, h.p0⟩
def Tr.list (T : Tr) (p : Pl) : List Ent := (T.ls p).getD []
/-- A list looked up. -/
theorem IsT.look (h : IsT w b mt ml n T) {p : Pl} (h1 : (Lit.int .i64 p.1).wf = true) (h2 : (Lit.int .i64 p.2).wf = true) :
    ∃ A c, (∀ u, Below w.heap.size w u → (Instr.lookup 39 (.map ml) (plV p) false).run Tryz.prog u = .ok (.slice A (T.list p).length c) u) ∧ RG w 2 encN (.slice A (T.list p).length c) (T.list p) ∧ ∀ g, blk (.slice A (T.list p).length c) = some g → ¬ OwnT b mt ml g := by
  have hz : ∀ u, (zeroValue 72).run Tryz.prog u = .ok (.slice none 0 0) u := fun u => by kernel_rfl
  obtain ⟨g, k1, k2⟩ := h.ls
  have k3 := k2 p
  have hrun : ∀ u, Below w.heap.size w u → (Instr.lookup 39 (.map ml) (plV p) false).run Tryz.prog u = .ok ((g p).getD (.slice none 0 0)) u := by
    intro u hu
    have k4 := k1.later (Mod.of_below (S := fun _ => False) hu) (fun _ _ => id)
    cases ml with
    | none =>
      rw [k1 p]
      exact Maps.look_nil false plD.law Tryz.underlying39 (hz u) (plD.rds (k := p) ⟨h1, h2⟩)
    | some q => exact IsMapK.look (D := plD) k4 Tryz.underlying39 (hz u) (k := p) ⟨h1, h2⟩
  cases hg : g p with
  | none =>
    rw [hg] at k3 hrun
    cases hl : T.ls p with
    | none =>
      have e : T.list p = [] := by rw [Tr.list, hl]; rfl
      rw [e]
      exact ⟨none, 0, hrun, RG.nil _ _ _, fun g hg => by cases hg⟩
    | some l => rw [hl] at k3; exact k3.elim
  | some v =>
    rw [hg] at k3 hrun
    cases hl : T.ls p with
    | none => rw [hl] at k3; exact k3.elim
    | some l =>
      rw [hl] at k3
      have e : T.list p = l := by rw [Tr.list, hl]; rfl
      rw [e]
      obtain ⟨A, c, rfl⟩ := k3.1.shape
      exact ⟨A, c, hrun, k3.1, k3.2⟩
def th0 : Thg := (0, 0, [])
theorem zeroTh (w : World) : (zeroValue 65).run Tryz.prog w = .ok (.agg #[.int .i64 0, .int .i64 0, .string ByteArray.empty]) w := by kernel_rfl
theorem str_nil : str [] = ByteArray.empty := rfl
/-- A thing looked up. -/
theorem IsT.lookT (h : IsT w b mt ml n T) {k : Int} (hk : (Lit.int .i64 k).wf = true) :
    (Instr.lookup 38 (.map mt) (.int .i64 k) false).run Tryz.prog w = .ok (thV ((T.th k).getD th0)) w := by
  have hth := h.th
  have e : ∀ o : Option Thg, (o.map thV).getD (.agg #[.int .i64 0, .int .i64 0, .string ByteArray.empty]) = thV (o.getD th0) := by
    intro o
    cases o <;> rfl
  cases mt with
  | none =>
    have h1 : (T.th k).map thV = none := hth k
    have h2 := Maps.look_nil false intD.law Tryz.underlying38 (zeroTh w) (intD.rds (k := k) hk)
    rw [← e, h1]
    exact h2
  | some q =>
    rw [← e]
    exact IsMapK.look (D := intD) hth Tryz.underlying38 (zeroTh w) (k := k) hk
theorem IsT.lookT2 (h : IsT w b mt ml n T) {k : Int} (hk : (Lit.int .i64 k).wf = true) :
    (Instr.lookup 38 (.map mt) (.int .i64 k) true).run Tryz.prog w = .ok (.tuple #[thV ((T.th k).getD th0), .bool (T.th k).isSome]) w := by
  have hth := h.th
  have e : ∀ o : Option Thg, (o.map thV).getD (.agg #[.int .i64 0, .int .i64 0, .string ByteArray.empty]) = thV (o.getD th0) ∧ (o.map thV).isSome = o.isSome := by
    intro o
    cases o <;> exact ⟨rfl, rfl⟩
  cases mt with
  | none =>
    have h1 : (T.th k).map thV = none := hth k
    have h2 := Maps.look_nil true intD.law Tryz.underlying38 (zeroTh w) (intD.rds (k := k) hk)
    rw [← (e _).1, ← (e _).2, h1]
    exact h2
  | some q =>
    rw [← (e _).1, ← (e _).2]
    exact IsMapK.look2 (D := intD) hth Tryz.underlying38 (zeroTh w) (k := k) hk
end
end Go.Proofs.YtiomhdanmcnaeaaGreatDoor
end

/-! What the calls that only read of a tree tell. -/
section
namespace Go.Proofs.YtiomhdanmcnaeaaGreatDoor
open Go.RowKit

/-- A block of a call's own, by its cells. -/
structure BoxC (w : World) (b : Nat) (cs : Array Value) (t : TypeId) : Prop where
  blk : w.heap[b]? = some (.cells cs t (0, 0))
section
variable {w w' : World} {b : Nat} {cs : Array Value} {t : TypeId}
theorem BoxC.lt (h : BoxC w b cs t) : b < w.heap.size := by
  rcases Nat.lt_or_ge b w.heap.size with hlt | hge
  · exact hlt
  · have := h.blk; rw [Array.getElem?_eq_none hge] at this; cases this
theorem BoxC.cell (h : BoxC w b cs t) (i : Nat) {v : Value} (hv : cs[i]? = some v) : w.cell? ⟨b, i, none⟩ = some v := by
  have := h.blk
  simp [World.cell?, this, hv]
theorem BoxC.free (h : BoxC w b cs t) (o : Nat) : w.frozen? ⟨b, o, none⟩ = false := by
  have := h.blk
  simp [World.frozen?, this]
theorem BoxC.below (h : BoxC w b cs t) (m : Below w.heap.size w w') : BoxC w' b cs t := ⟨(m.block b h.lt).trans h.blk⟩
theorem BoxC.kept (h : BoxC w b cs t) {S : Nat → Prop} (m : Mod S w w') (hs : ¬ S b) : BoxC w' b cs t := ⟨(m.block b h.lt hs).trans h.blk⟩
theorem BoxC.new (w : World) (cs : Array Value) (t : TypeId) : BoxC (w.alloc (.cells cs t)) w.heap.size cs t := ⟨heap_alloc_new w _⟩
theorem BoxC.put (h : BoxC w b cs t) (o : Nat) (u : Value) : BoxC (w.setCell ⟨b, o, none⟩ u) b (cs.setIfInBounds o u) t := by
  obtain ⟨hlt, hk⟩ := Array.getElem?_eq_some_iff.1 h.blk
  refine ⟨?_⟩
  show (w.heap.modify b _)[b]? = _
  rw [Array.getElem?_eq_getElem (by rw [Array.size_modify]; exact hlt), Array.getElem_modify_self, hk]
  rfl
end
theorem wfK {n : Nat} (h : n ≤ 9223372036854775807) : (Lit.int .i64 (n : Int)).wf = true := by
  simp [Lit.wf, IntKind.min, IntKind.max, IntKind.signed, IntKind.bits]; omega
theorem wf_of {x : Int} (h : -9223372036854775808 ≤ x ∧ x ≤ 9223372036854775807) : (Lit.int .i64 x).wf = true := by
  simp [Lit.wf, IntKind.min, IntKind.max, IntKind.signed, IntKind.bits]; omega
/-- Where a name's list lies. -/
def placeP (f : Int) (s : List UInt8) : Pl := if f = 0 then (0, (zoneU s : Int)) else (f, 0)
theorem zone4 (s : List UInt8) : zoneU s < 4 := by unfold zoneU; omega
theorem placeP_wf {f : Int} (h : (Lit.int .i64 f).wf = true) (s : List UInt8) : (Lit.int .i64 (placeP f s).1).wf = true ∧ (Lit.int .i64 (placeP f s).2).wf = true := by
  have := zone4 s
  unfold placeP
  split
  · exact ⟨by show (Lit.int .i64 0).wf = true; decide, wfK (by omega)⟩
  · exact ⟨h, by show (Lit.int .i64 0).wf = true; decide⟩
set_option maxRecDepth 100000 in
theorem placeOf_any (f : Int) (s : List UInt8) (hs : s.length ≤ 1000000) (w : World) :
    Calls Tryz.prog 26 #[.int .i64 f, .string (str s)] w fun e w' => e = .returned (plV (placeP f s)) ∧ Below w.heap.size w w' := by
  by_cases hf : f = 0
  · subst hf
    have HP : Hid (placeP 0 s = (0, (zoneU s : Int))) := Lib.hid (if_pos rfl)
    rw [HP.out]
    go_enter Tryz.func26, Tryz.ntmps26
    go_upto_region 1 with (fail)
    obtain ⟨w1, Hw1⟩ : ∃ u, Hid (w.alloc (.cells #[.int .i64 0, .int .i64 0] 71) = u) := ⟨_, Lib.hid rfl⟩
    obtain ⟨p, Hp⟩ : ∃ u, Hid (w.heap.size = u) := ⟨_, Lib.hid rfl⟩
    have HX : Hid (BoxC w1 p #[.int .i64 0, .int .i64 0] 71) := Lib.hid (by rw [← Hw1.out, ← Hp.out]; exact BoxC.new w _ _)
    have HB : Hid (Below p w w1) := Lib.hid (by rw [← Hw1.out, ← Hp.out]; exact balloc (Below.refl _ _) _)
    rw [Hw1.out, Hp.out]
    go_wp2_with fail
    refine (Zone_any s hs _).mono ?_
    rintro e w2 ⟨rfl, hb⟩
    have HX2 := Lib.hid (HX.out.below hb)
    have HB2 : Hid (Below p w w2) := Lib.hid (by have h := HB.out; rw [← Hp.out] at h ⊢; exact bnext h hb)
    clear hb
    have f0 := HX2.out.free 0
    have f1 := HX2.out.free 1
    have z0 := HX2.out.cell 0 rfl
    have z1 := HX2.out.cell 1 rfl
    have HX3 := Lib.hid ((HX2.out.put 0 (.int .i64 0)).put 1 (.int .i64 (zoneU s : Int)))
    have HB3 : Hid (Below p w ((w2.setCell ⟨p, 0, none⟩ (.int .i64 0)).setCell ⟨p, 1, none⟩ (.int .i64 (zoneU s : Int)))) := Lib.hid (by
      have h := HB2.out
      have m : Mod (· = p) w2 ((w2.setCell ⟨p, 0, none⟩ (.int .i64 0)).setCell ⟨p, 1, none⟩ (.int .i64 (zoneU s : Int))) := ((Mod.refl _ w2).set1 _).set1 _
      rw [← Hp.out] at h m ⊢
      exact bmod h m (Nat.le_refl _))
    go_wp2
    have s0 := HX3.out.cell 0 rfl
    have s1 := HX3.out.cell 1 rfl
    exact bodyPost_ret (v := plV (0, (zoneU s : Int))) (by simp [results, Tryz.results26, go_sem, s0, s1]) rfl ⟨rfl, by rw [Hp.out]; exact HB3.out⟩
  · have HP : Hid (placeP f s = (f, 0)) := Lib.hid (if_neg hf)
    rw [HP.out]
    have hq : (f == 0) = false := by simpa using hf
    go_enter Tryz.func26, Tryz.ntmps26
    go_wp2
    exact bodyPost_ret (v := plV (f, 0)) (by simp [results, Tryz.results26, go_sem]) rfl ⟨rfl, (Below.refl _ _).alloc (Nat.le_refl _) _⟩
section
variable {w : World} {b n : Nat} {mt ml : Option Nat} {T : Tr}
def Tr.kind (T : Tr) (k : Int) : Int := if k = 0 then 2 else ((T.th k).getD th0).1
theorem thF0 (a b c : Value) (w : World) : (Instr.field 65 (.agg #[a, b, c]) 0).run Tryz.prog w = .ok a w := by kernel_rfl
theorem thF1 (a b c : Value) (w : World) : (Instr.field 65 (.agg #[a, b, c]) 1).run Tryz.prog w = .ok b w := by kernel_rfl
theorem thF2 (a b c : Value) (w : World) : (Instr.field 65 (.agg #[a, b, c]) 2).run Tryz.prog w = .ok c w := by kernel_rfl
set_option maxRecDepth 100000 in
theorem kind_any (h : IsT w b mt ml n T) (k : Int) (hk : (Lit.int .i64 k).wf = true) :
    Calls Tryz.prog 27 #[.pointer (some ⟨b, 0, none⟩), .int .i64 k] w fun e w' => e = .returned (.int .i64 (T.kind k)) ∧ w = w' := by
  by_cases h0 : k = 0
  · have HK : Hid (T.kind k = 2) := Lib.hid (if_pos h0)
    rw [HK.out]
    subst h0
    go_enter Tryz.func27, Tryz.ntmps27
    go_wp2
    go_ret
    exact ⟨rfl, rfl⟩
  · have HK : Hid (T.kind k = ((T.th k).getD th0).1) := Lib.hid (if_neg h0)
    rw [HK.out]
    have hq : (k == 0) = false := by simpa using h0
    have hl := h.lookT hk
    have c2 := h.c2
    obtain ⟨x, Hx⟩ : ∃ x, Hid ((T.th k).getD th0 = x) := ⟨_, Lib.hid rfl⟩
    rw [Hx.out] at hl ⊢
    rw [thV] at hl
    have hf := thF0
    go_enter Tryz.func27, Tryz.ntmps27
    go_wp2
    go_ret
    exact ⟨rfl, rfl⟩
/-- How many more sectors. -/
def moreI (was is : Int) : Int := needI is - needI was
set_option maxRecDepth 100000 in
theorem more_any (was is : Int) (h1 : 0 ≤ was ∧ was ≤ 1000000) (h2 : 0 ≤ is ∧ is ≤ 1000000) (w : World) :
    Calls Tryz.prog 77 #[.int .i64 was, .int .i64 is] w fun e w' => e = .returned (.int .i64 (moreI was is)) ∧ w = w' := by
  have hn : ∀ x : Int, 0 ≤ x ∧ x ≤ 1000000 → 0 ≤ needI x ∧ needI x ≤ 10000 := by
    intro x hx
    unfold needI
    split <;> omega
  have a1 := hn _ h1
  have a2 := hn _ h2
  have hm : Hid (moreI was is = needI is - needI was) := Lib.hid rfl
  rw [hm.out]
  obtain ⟨x, Hx⟩ : ∃ x, Hid (needI was = x) := ⟨_, Lib.hid rfl⟩
  obtain ⟨y, Hy⟩ : ∃ x, Hid (needI is = x) := ⟨_, Lib.hid rfl⟩
  rw [Hx.out, Hy.out]
  rw [Hx.out] at a1
  rw [Hy.out] at a2
  have hw : IntKind.i64.wrap (y - x) = y - x := IntWalk.i64_in _ (by omega)
  go_enter Tryz.func77, Tryz.ntmps77
  go_wp2_with fail
  refine (Need_any is (wf_of (by omega)) _).mono ?_
  rw [Hy.out]
  rintro e w2 ⟨rfl, rfl⟩
  go_wp2_with fail
  refine (Need_any was (wf_of (by omega)) _).mono ?_
  rw [Hx.out]
  rintro e w2 ⟨rfl, rfl⟩
  go_wp2
  go_ret
  exact ⟨rfl, rfl⟩
def Tr.used (T : Tr) (k : Int) : Int := match T.th k with
  | none => 0
  | some x => 1 + needI (x.2.2.length : Int)
set_option maxRecDepth 100000 in
theorem used_any (h : IsT w b mt ml n T) (k : Int) (hk : (Lit.int .i64 k).wf = true) (hd : ∀ x, T.th k = some x → x.2.2.length ≤ 100000) :
    Calls Tryz.prog 78 #[.pointer (some ⟨b, 0, none⟩), .int .i64 k] w fun e w' => e = .returned (.int .i64 (T.used k)) ∧ Below w.heap.size w w' := by
  have hl := h.lookT2 hk
  have c2 := h.c2
  cases hx : T.th k with
  | none =>
    have HU : Hid (T.used k = 0) := Lib.hid (by unfold Tr.used; rw [hx])
    rw [HU.out]
    rw [hx] at hl
    simp only [Option.getD_none, Option.isSome_none, th0, thV] at hl
    clear hd hx
    go_enter Tryz.func78, Tryz.ntmps78
    go_wp2
    go_ret
    exact ⟨rfl, (Below.refl _ _).alloc (Nat.le_refl _) _⟩
  | some x =>
    have HU : Hid (T.used k = 1 + needI (x.2.2.length : Int)) := Lib.hid (by unfold Tr.used; rw [hx])
    have hd' := hd x hx
    rw [HU.out]
    rw [hx] at hl
    simp only [Option.getD_some, Option.isSome_some, thV] at hl
    have hn : 0 ≤ needI (x.2.2.length : Int) ∧ needI (x.2.2.length : Int) ≤ 10000 := by unfold needI; split <;> omega
    obtain ⟨y, Hy⟩ : ∃ y, Hid (needI (x.2.2.length : Int) = y) := ⟨_, Lib.hid rfl⟩
    rw [Hy.out] at hn ⊢
    have hw : IntKind.i64.wrap (1 + y) = 1 + y := IntWalk.i64_in _ (by omega)
    clear hd hx
    go_enter Tryz.func78, Tryz.ntmps78
    go_wp2_with fail
    refine (Need_any _ (wfK (by omega)) _).mono ?_
    rw [Hy.out]
    rintro e w2 ⟨rfl, rfl⟩
    go_wp2
    go_ret
    exact ⟨rfl, (Below.refl _ _).alloc (Nat.le_refl _) _⟩
/-- How many bytes a list has. -/
def Tr.size (T : Tr) (p : Pl) : Nat := sizeN (T.list p)
structure ListOk (l : List Ent) : Prop where
  size : sizeN l ≤ 6144
  name : ∀ e ∈ l, 1 ≤ e.1.length ∧ e.1.length ≤ 1000
theorem ListOk.tail {a : Ent} {l : List Ent} (h : ListOk (a :: l)) : ListOk l ∧ sizeN (a :: l) = a.1.length + 6 + sizeN l := by
  have e : sizeN (a :: l) = a.1.length + 6 + sizeN l := by simp [sizeN]
  exact ⟨⟨by have := h.size; omega, fun e he => h.name e (List.mem_cons_of_mem _ he)⟩, e⟩
theorem sizeN_ge : ∀ {l : List Ent}, (∀ e ∈ l, 1 ≤ e.1.length) → 7 * l.length ≤ sizeN l
  | [], _ => by simp [sizeN]
  | a :: l, h => by
    have h1 := sizeN_ge (l := l) (fun e he => h e (List.mem_cons_of_mem _ he))
    have h2 := h a (by simp)
    have e : sizeN (a :: l) = a.1.length + 6 + sizeN l := by simp [sizeN]
    rw [e, List.length_cons]
    omega
theorem ListOk.len {l : List Ent} (h : ListOk l) : l.length ≤ 1000 := by
  have := sizeN_ge (fun e he => (h.name e he).1)
  have := h.size
  omega
set_option maxRecDepth 100000 in
theorem size_any (h : IsT w b mt ml n T) (p : Pl) (h1 : (Lit.int .i64 p.1).wf = true) (h2 : (Lit.int .i64 p.2).wf = true) (hl : ListOk (T.list p)) :
    Calls Tryz.prog 51 #[.pointer (some ⟨b, 0, none⟩), plV p] w fun e w' => e = .returned (.int .i64 (T.size p : Int)) ∧ Below w.heap.size w w' := by
  obtain ⟨A, c, hk, hR, _⟩ := h.look h1 h2
  have Hk := Lib.hid hk
  have HR := Lib.hid hR
  have H := Lib.hid h
  have HL := Lib.hid hl
  clear hk hR h hl
  rw [Tr.size]
  go_enter Tryz.func51, Tryz.ntmps51
  go_upto_region 1 with (fail)
  obtain ⟨w1, Hw1⟩ : ∃ u, Hid (w.alloc (.cells #[.int .i64 p.1, .int .i64 p.2] 71) = u) := ⟨_, Lib.hid rfl⟩
  obtain ⟨q, Hq⟩ : ∃ u, Hid (w.heap.size = u) := ⟨_, Lib.hid rfl⟩
  have HX : Hid (BoxC w1 q #[.int .i64 p.1, .int .i64 p.2] 71) := Lib.hid (by rw [← Hw1.out, ← Hq.out]; exact BoxC.new w _ _)
  have HB : Hid (Below w.heap.size w w1) := Lib.hid (by rw [← Hw1.out]; exact balloc (Below.refl _ _) _)
  rw [Hw1.out, Hq.out]
  have k0 : ∀ y : In (Abv w1), y.u.cell? ⟨q, 0, none⟩ = some (.int .i64 p.1) := fun y => (HX.out.below y.is).cell 0 rfl
  have k1 : ∀ y : In (Abv w1), y.u.cell? ⟨q, 1, none⟩ = some (.int .i64 p.2) := fun y => (HX.out.below y.is).cell 1 rfl
  have k3 : ∀ y : In (Abv w1), y.u.cell? ⟨b, 3, none⟩ = some (.map ml) := fun y => (H.out.below (bnext HB.out y.is)).c3
  have kl : ∀ y : In (Abv w1), (Instr.lookup 39 (.map ml) (.agg #[.int .i64 p.1, .int .i64 p.2]) false).run Tryz.prog y.u = .ok (.slice A (T.list p).length c) y.u := fun y => Hk.out y.u (bnext HB.out y.is)
  refine wp_region_mix (by kernel_rfl) (Cls (Abv w1)) [(0, 0), (1, 0), (2, 0), (3, 0), (4, 0), (5, 0), (6, 1), (7, 0)] (by kernel_rfl) (cls (Below.refl _ _).drew) ?_
  repeat (refine mix0 rfl (fun K hK => ?_); go_simp; refine hK _ ?_; clear hK K)
  refine mix1 rfl (fun K hK => ?_)
  go_simp
  obtain ⟨hI, _⟩ := (HR.out.below (bnext HB.out (Below.refl _ w1).drew)).is encN_ok
  refine (Size_any (T.list p) A _ c _ hI (fun e he => (HL.out.name e he).2) HL.out.len).mono ?_
  rintro e w2 ⟨rfl, hb⟩
  have HB2 : Hid (Below w1.heap.size w1 w2) := Lib.hid ((Below.refl _ _).drew.trans hb)
  clear hb hI
  refine ⟨_, rfl, hK _ _ (cls HB2.out) ?_⟩
  clear hK K
  repeat (refine mix0 rfl (fun K hK => ?_); go_simp; refine hK _ ?_; clear hK K)
  refine mixEnd ?_
  go_wp2
  go_ret
  exact ⟨rfl, bnext HB.out HB2.out⟩
end
end Go.Proofs.YtiomhdanmcnaeaaGreatDoor
end

/-! How a path is walked, and what a list may have more. -/
section
namespace Go.Proofs.YtiomhdanmcnaeaaGreatDoor
open Go.RowKit

/-- What is so of a tree that calls have made. -/
structure Tok (T : Tr) : Prop where
  ls : ∀ p l, T.ls p = some l → ListOk l ∧ ∀ e ∈ l, 1 ≤ e.2 ∧ e.2 ≤ T.last
  th : ∀ k x, T.th k = some x → x.2.2.length ≤ 6144 ∧ 1 ≤ x.2.1 ∧ x.2.1 ≤ 1000 ∧ (x.1 = 1 ∨ x.1 = 2)
  last : 0 ≤ T.last ∧ T.last ≤ 1000000
  free : -1000000000000 ≤ T.free ∧ T.free ≤ 2000000000000
  ne : ∀ p l, T.ls p = some l → l ≠ []
theorem Tok.list {T : Tr} (h : Tok T) (p : Pl) : ListOk (T.list p) ∧ ∀ e ∈ T.list p, 1 ≤ e.2 ∧ e.2 ≤ T.last := by
  unfold Tr.list
  cases hl : T.ls p with
  | none => exact ⟨⟨by simp [sizeN], fun e he => by simp at he⟩, fun e he => by simp at he⟩
  | some l => exact h.ls p l hl
/-- A number that a name may be of. -/
def numOk (T : Tr) (k : Int) : Prop := 0 ≤ k ∧ k ≤ T.last
theorem numOk.wf {T : Tr} {k : Int} (h : numOk T k) (ht : Tok T) : (Lit.int .i64 k).wf = true := wf_of (by have := ht.last; have := h; unfold numOk at this; omega)
theorem find_ok {T : Tr} (h : Tok T) (p : Pl) (s : List UInt8) : numOk T (findN (T.list p) s).1 := by
  unfold findN
  split
  · next hlt =>
    have e : findX (T.list p) s = ((T.list p)[atN (T.list p) s]).2 := by rw [findX, List.getD_eq_getElem?_getD, List.getElem?_eq_getElem hlt]; rfl
    have := (h.list p).2 _ (List.getElem_mem hlt)
    exact ⟨by show 0 ≤ findX _ _; rw [e]; omega, by show findX _ _ ≤ _; rw [e]; omega⟩
  · exact ⟨Int.le_refl _, h.last.1⟩
/-- The number to which names lead, and what is told. -/
def Tr.walkP (T : Tr) : Int → List (List UInt8) → Int × Int
  | k, [] => (k, 0)
  | k, s :: r => if T.kind k = 2 then (if (findN (T.list (placeP k s)) s).2 = true then T.walkP (findN (T.list (placeP k s)) s).1 r else (k, 12)) else (k, 19)
section
variable {w : World} {b n : Nat} {mt ml : Option Nat} {T : Tr}
theorem walk_ok (h : Tok T) : ∀ (l : List (List UInt8)) (k : Int), numOk T k → numOk T (T.walkP k l).1
  | [], k, hk => hk
  | s :: r, k, hk => by
    rw [Tr.walkP]
    split
    · split
      · exact walk_ok h r _ (find_ok h _ s)
      · exact hk
    · exact hk
set_option maxRecDepth 100000 in
set_option maxHeartbeats 4000000 in
theorem walk_any (h : IsT w b mt ml n T) (ht : Tok T) (A : Option Addr) (m c : Nat) (X : List (List UInt8)) (hX : IsG w 1 encT A m X) (hs : ∀ s ∈ X, s.length ≤ 1000) :
    Calls Tryz.prog 14 #[.pointer (some ⟨b, 0, none⟩), .slice A m c] w fun e w' => e = .returned (.tuple #[.int .i64 (T.walkP 0 X).1, .int .i64 (T.walkP 0 X).2]) ∧ Below w.heap.size w w' := by
  have H := Lib.hid h
  have HX := Lib.hid hX
  have Ht := Lib.hid ht
  have Hs := Lib.hid hs
  have hlen := hX.length
  have hsm := hX.small
  obtain ⟨R1, HR1⟩ : ∃ r, Hid ((T.walkP 0 X).1 = r) := ⟨_, Lib.hid rfl⟩
  obtain ⟨R2, HR2⟩ : ∃ r, Hid ((T.walkP 0 X).2 = r) := ⟨_, Lib.hid rfl⟩
  rw [HR1.out, HR2.out]
  clear h hX ht hs
  go_enter Tryz.func14, Tryz.ntmps14
  go_wp2
  go_step3
  go_wp2
  go_step3
  go_wp2
  go_loopw [6, 7, 14] (fun a v i wr => ∃ (k : Nat) (at_ : Int), k ≤ m ∧ a = .int .i64 at_ ∧ v = .int .i64 0 ∧ i = .int .i64 (k : Int) ∧ Hid (numOk T at_) ∧ Hid (T.walkP at_ (X.drop k) = (R1, R2)) ∧ Hid (Below w.heap.size w wr)) (fun _ _ i _ => m - (intOf i).toNat)
  case atStart => exact ⟨0, 0, Nat.zero_le _, rfl, rfl, rfl, Lib.hid ⟨Int.le_refl _, Ht.out.last.1⟩, Lib.hid (by rw [List.drop_zero, ← HR1.out, ← HR2.out]), Lib.hid (Below.refl _ _)⟩
  case round =>
    obtain ⟨k, at_, hk, rfl, rfl, rfl, HN, HW, HB⟩ := hrel
    by_cases hlt : k < m
    · have hltI : (k : Int) < (m : Int) := by omega
      obtain ⟨s, hs⟩ : ∃ s, X[k]? = some s := ⟨_, List.getElem?_eq_getElem (by omega)⟩
      obtain ⟨g, off, rfl, hc⟩ := (HX.out.below HB.out).txt hs
      have HD : Hid (X.drop k = s :: X.drop (k + 1)) := Lib.hid (by
        have hk' : k < X.length := by omega
        rw [List.drop_eq_getElem_cons hk']
        have e := List.getElem?_eq_getElem hk'
        rw [hs] at e
        injection e with e
        rw [e])
      have HSl : Hid (s.length ≤ 1000) := Lib.hid (Hs.out s (List.mem_of_getElem? hs))
      clear hs
      go_upto_region 5 with (fail)
      clear hc
      have wfa := HN.out.wf Ht.out
      obtain ⟨P, HP⟩ : ∃ P, Hid (placeP at_ s = P) := ⟨_, Lib.hid rfl⟩
      have HPw : Hid ((Lit.int .i64 P.1).wf = true ∧ (Lit.int .i64 P.2).wf = true) := Lib.hid (by rw [← HP.out]; exact placeP_wf wfa s)
      have HT := Lib.hid (H.out.below HB.out)
      obtain ⟨B, d, hl, hR, _⟩ := HT.out.look HPw.out.1 HPw.out.2
      have Hl := Lib.hid hl
      have HR := Lib.hid hR
      clear hl hR
      obtain ⟨F1, HF1⟩ : ∃ x, Hid ((findN (T.list P) s).1 = x) := ⟨_, Lib.hid rfl⟩
      obtain ⟨F2, HF2⟩ : ∃ x, Hid ((findN (T.list P) s).2 = x) := ⟨_, Lib.hid rfl⟩
      have k3 : ∀ y : In (Abv wr), y.u.cell? ⟨b, 3, none⟩ = some (.map ml) := fun y => (HT.out.below y.is).c3
      have kl : ∀ y : In (Abv wr), (Instr.lookup 39 (.map ml) (.agg #[.int .i64 P.1, .int .i64 P.2]) false).run Tryz.prog y.u = .ok (.slice B (T.list P).length d) y.u := fun y => Hl.out y.u y.is
      refine wp_region_mix (by kernel_rfl) (Cls (Abv wr)) [(0, 0), (1, 0), (2, 0), (3, 0), (4, 0), (5, 0), (8, 0), (6, 1), (7, 0), (9, 1), (10, 0), (11, 0), (12, 0), (13, 0), (14, 0)] (by kernel_rfl) (cls (Below.refl _ _).drew) ?_
      repeat (refine mix0 rfl (fun K hK => ?_); go_simp; refine hK _ ?_; clear hK K)
      refine mix1 rfl (fun K hK => ?_)
      go_simp
      refine (placeOf_any at_ s (by have := HSl.out; omega) _).mono ?_
      rw [HP.out]
      rintro e w2 ⟨rfl, hb⟩
      have B2 : Hid (Below wr.heap.size wr w2) := Lib.hid ((Below.refl _ _).drew.trans hb)
      clear hb
      refine ⟨_, rfl, hK _ _ (cls B2.out) ?_⟩
      clear hK K
      repeat (refine mix0 rfl (fun K hK => ?_); go_simp; refine hK _ ?_; clear hK K)
      refine mix1 rfl (fun K hK => ?_)
      go_simp
      obtain ⟨hI, _⟩ := (HR.out.below B2.out).is encN_ok
      refine (Find_any B _ d (T.list P) s _ hI (by have := (Ht.out.list P).1.len; omega)).mono ?_
      rw [HF1.out, HF2.out]
      rintro e w3 ⟨rfl, hb⟩
      have B3 : Hid (Below wr.heap.size wr w3) := Lib.hid (bnext B2.out hb)
      clear hb hI
      refine ⟨_, rfl, hK _ _ (cls B3.out) ?_⟩
      clear hK K
      repeat (refine mix0 rfl (fun K hK => ?_); go_simp; refine hK _ ?_; clear hK K)
      refine mixEnd ?_
      clear k3 kl
      have HB3 : Hid (Below w.heap.size w w3) := Lib.hid (bnext HB.out B3.out)
      go_wp2_with fail
      refine (kind_any (H.out.below HB3.out) at_ wfa).mono ?_
      obtain ⟨Kd, HK⟩ : ∃ x, Hid (T.kind at_ = x) := ⟨_, Lib.hid rfl⟩
      rw [HK.out]
      rintro e w4 ⟨rfl, rfl⟩
      clear wfa
      have HW2 : Hid ((if Kd = 2 then (if F2 = true then T.walkP F1 (X.drop (k + 1)) else (at_, 12)) else (at_, 19)) = (R1, R2)) := Lib.hid (by
        have h := HW.out
        rw [HD.out, Tr.walkP, HP.out, HF1.out, HF2.out, HK.out] at h
        exact h)
      have HN2 : Hid (numOk T F1) := Lib.hid (by rw [← HF1.out]; exact find_ok Ht.out P s)
      by_cases hkd : Kd = 2
      · have hq : (Kd != 2) = false := by rw [hkd]; rfl
        cases F2 with
        | true =>
          have HW3 : Hid (T.walkP F1 (X.drop (k + 1)) = (R1, R2)) := Lib.hid (by have h := HW2.out; rw [if_pos hkd, if_pos rfl] at h; exact h)
          clear hkd
          go_wp2
          go_roundw
          case rel => exact ⟨k + 1, F1, by omega, rfl, rfl, by go_num, HN2, HW3, HB3⟩
          case measure => simp [intOf]; omega
        | false =>
          have hr : R1 = at_ ∧ R2 = 12 := by have h := HW2.out; rw [if_pos hkd, if_neg (by simp)] at h; injection h with h1 h2; exact ⟨h1.symm, h2.symm⟩
          obtain ⟨rfl, rfl⟩ := hr
          clear hkd
          go_wp2
          try rw [Exit.noGoto_ret]
          go_ret2
          exact ⟨rfl, HB3.out⟩
      · have hq : (Kd != 2) = true := by simpa using hkd
        have hr : R1 = at_ ∧ R2 = 19 := by have h := HW2.out; rw [if_neg hkd] at h; injection h with h1 h2; exact ⟨h1.symm, h2.symm⟩
        obtain ⟨rfl, rfl⟩ := hr
        clear hkd
        go_wp2
        try rw [Exit.noGoto_ret]
        go_ret2
        exact ⟨rfl, HB3.out⟩
    · have hltI : ¬ (k : Int) < (m : Int) := by omega
      have hr : R1 = at_ ∧ R2 = 0 := by
        have h := HW.out
        rw [List.drop_of_length_le (by omega)] at h
        injection h with h1 h2
        exact ⟨h1.symm, h2.symm⟩
      obtain ⟨rfl, rfl⟩ := hr
      go_wp2
      try rw [Exit.noGoto_ret]
      go_ret2
      exact ⟨rfl, HB.out⟩
end
end Go.Proofs.YtiomhdanmcnaeaaGreatDoor
end

/-! Where a name stands, or would; what a list may have more. -/
section
namespace Go.Proofs.YtiomhdanmcnaeaaGreatDoor
open Go.RowKit

theorem IsG.txt2 {w : World} {A : Option Addr} {n : Nat} {l : List (List UInt8)} (h : IsG w 1 encT A n l) {i : Nat} {z : List UInt8} (hi : l[i]? = some z) :
    ∃ g off, A = some ⟨g, off, none⟩ ∧ g < w.heap.size ∧ w.cell? ⟨g, off + i, none⟩ = some (.string (str z)) := by
  have hil := (List.getElem?_eq_some_iff.1 hi).1
  obtain ⟨g, off, e, hg, hc⟩ := h.cells (by rw [← h.length]; omega)
  have c := hc i z 0 _ hi rfl
  rw [Nat.mul_one, Nat.add_zero] at c
  exact ⟨g, off, e, hg, c⟩
/-- Worlds in which nothing but a block of a call's own has turned. -/
abbrev M1 (w : World) (p : Nat) : World → Prop := fun u => Mod (· = p) w u
instance (w : World) (p : Nat) : Nonempty (In (M1 w p)) := ⟨⟨w, Mod.refl _ w⟩⟩
theorem m1_below {w : World} {p : Nat} {a b : World} (h : M1 w p a) (k : Below a.heap.size a b) : M1 w p b := h.trans (Mod.of_below k)
set_option maxRecDepth 100000 in
theorem long_any (s : List UInt8) (hs : s.length ≤ 1000) (w : World) :
    Calls Tryz.prog 52 #[.string (str s)] w fun e w' => e = .returned (.int .i64 ((s.length : Int) + 6)) ∧ Below w.heap.size w w' := by
  have hz : sizeN [(s, 0)] = s.length + 6 := by simp [sizeN]
  go_enter Tryz.func52, Tryz.ntmps52
  go_wp2_with fail
  refine (Size_any [(s, 0)] _ 1 1 _ (n_one w (s, 0) 82) (by intro e he; simp at he; subst he; exact hs) (by omega)).mono ?_
  rw [hz]
  rintro e w2 ⟨rfl, hb⟩
  have B2 := Lib.hid (bnext (balloc (Below.refl _ w) (.cells #[.string (str s), .int .i64 0] 82)) hb)
  clear hb
  go_wp2
  go_ret
  exact ⟨ret_int (by omega), B2.out⟩
section
variable {w : World} {b n : Nat} {mt ml : Option Nat} {T : Tr}
/-- What is told of so many bytes in a list, and so many sectors beside. -/
def Tr.roomE (T : Tr) (p : Pl) (size beside : Int) : Int := if 6144 < size then 11 else if T.free < moreI (T.size p) size + beside then 15 else 0
theorem need_small {x : Int} (h : 0 ≤ x ∧ x ≤ 1000000) : 0 ≤ needI x ∧ needI x ≤ 10000 := by unfold needI; split <;> omega
set_option maxRecDepth 100000 in
theorem room_any (h : IsT w b mt ml n T) (ht : Tok T) (p : Pl) (h1 : (Lit.int .i64 p.1).wf = true) (h2 : (Lit.int .i64 p.2).wf = true) (size beside : Int) (hs : 0 ≤ size ∧ size ≤ 1000000) (hb : 0 ≤ beside ∧ beside ≤ 1000) :
    Calls Tryz.prog 50 #[.pointer (some ⟨b, 0, none⟩), plV p, .int .i64 size, .int .i64 beside] w fun e w' => e = .returned (.int .i64 (T.roomE p size beside)) ∧ Below w.heap.size w w' := by
  have H := Lib.hid h
  have Ht := Lib.hid ht
  have hsz := (ht.list p).1.size
  clear h ht
  obtain ⟨R, HR⟩ : ∃ r, Hid (T.roomE p size beside = r) := ⟨_, Lib.hid rfl⟩
  rw [HR.out]
  go_enter Tryz.func50, Tryz.ntmps50
  go_upto_region 1 with (fail)
  obtain ⟨w1, Hw1⟩ : ∃ u, Hid (w.alloc (.cells #[.int .i64 p.1, .int .i64 p.2] 71) = u) := ⟨_, Lib.hid rfl⟩
  obtain ⟨q, Hq⟩ : ∃ u, Hid (w.heap.size = u) := ⟨_, Lib.hid rfl⟩
  have HX : Hid (BoxC w1 q #[.int .i64 p.1, .int .i64 p.2] 71) := Lib.hid (by rw [← Hw1.out, ← Hq.out]; exact BoxC.new w _ _)
  have HB : Hid (Below w.heap.size w w1) := Lib.hid (by rw [← Hw1.out]; exact balloc (Below.refl _ _) _)
  rw [Hw1.out, Hq.out]
  by_cases hbig : 6144 < size
  · have hr : R = 11 := by rw [← HR.out, Tr.roomE, if_pos hbig]
    subst hr
    go_wp2
    go_ret
    exact ⟨rfl, HB.out⟩
  · obtain ⟨M, HM⟩ : ∃ r, Hid (moreI (T.size p) size = r) := ⟨_, Lib.hid rfl⟩
    obtain ⟨F, HF⟩ : ∃ r, Hid (T.free = r) := ⟨_, Lib.hid rfl⟩
    have HR2 : Hid (R = if F < M + beside then 15 else 0) := Lib.hid (by rw [← HR.out, Tr.roomE, if_neg hbig, HM.out, HF.out])
    have hM : -10000 ≤ M ∧ M ≤ 10000 := by
      rw [← HM.out]
      have a1 := need_small (x := ((T.size p : Nat) : Int)) (by unfold Tr.size; omega)
      have a2 := need_small hs
      unfold moreI
      omega
    have hw : IntKind.i64.wrap (M + beside) = M + beside := IntWalk.i64_in _ (by omega)
    go_upto_region 3 with (fail)
    have k0 : ∀ y : In (Abv w1), y.u.cell? ⟨q, 0, none⟩ = some (.int .i64 p.1) := fun y => (HX.out.below y.is).cell 0 rfl
    have k1 : ∀ y : In (Abv w1), y.u.cell? ⟨q, 1, none⟩ = some (.int .i64 p.2) := fun y => (HX.out.below y.is).cell 1 rfl
    have k3 : ∀ y : In (Abv w1), y.u.cell? ⟨b, 0, none⟩ = some (.int .i64 F) := fun y => by rw [← HF.out]; exact (H.out.below (bnext HB.out y.is)).c0
    refine wp_region_mix (by kernel_rfl) (Cls (Abv w1)) [(0, 0), (1, 0), (3, 0), (5, 0), (7, 0), (8, 0), (9, 0), (10, 0), (2, 1), (4, 1), (6, 0), (11, 0), (12, 0)] (by kernel_rfl) (cls (Below.refl _ _).drew) ?_
    repeat (refine mix0 rfl (fun K hK => ?_); go_simp; refine hK _ ?_; clear hK K)
    refine mix1 rfl (fun K hK => ?_)
    go_simp
    refine (size_any (H.out.below (bnext HB.out (Below.refl _ w1).drew)) p h1 h2 (Ht.out.list p).1).mono ?_
    rintro e w2 ⟨rfl, hb2⟩
    have B2 : Hid (Below w1.heap.size w1 w2) := Lib.hid ((Below.refl _ _).drew.trans hb2)
    clear hb2
    refine ⟨_, rfl, hK _ _ (cls B2.out) ?_⟩
    clear hK K
    repeat (refine mix0 rfl (fun K hK => ?_); go_simp; refine hK _ ?_; clear hK K)
    refine mix1 rfl (fun K hK => ?_)
    go_simp
    refine (more_any (T.size p : Int) size (by unfold Tr.size; omega) (by omega) _).mono ?_
    rw [HM.out]
    rintro e w3 ⟨rfl, rfl⟩
    refine ⟨_, rfl, hK _ _ (cls B2.out) ?_⟩
    clear hK K
    repeat (refine mix0 rfl (fun K hK => ?_); go_simp; refine hK _ ?_; clear hK K)
    refine mixEnd ?_
    clear k0 k1 k3
    have B3 := Lib.hid (bnext HB.out B2.out)
    by_cases hf : F < M + beside
    · have hr : R = 15 := by rw [HR2.out, if_pos hf]
      subst hr
      go_wp2
      go_ret
      exact ⟨rfl, B3.out⟩
    · have hr : R = 0 := by rw [HR2.out, if_neg hf]
      subst hr
      go_wp2
      go_ret
      exact ⟨rfl, B3.out⟩
@[reducible] def spV (p : Pl) (s : List UInt8) : Value := .agg #[.int .i64 p.1, .int .i64 p.2, .string (str s)]
/-- The folder to which all names but the last one lead, and what is told. -/
def Tr.spotF (T : Tr) (Y : List (List UInt8)) : Int := (T.walkP 0 Y).1
def Tr.spotE (T : Tr) (Y : List (List UInt8)) : Int := if (T.walkP 0 Y).2 = 0 ∧ T.kind (T.walkP 0 Y).1 ≠ 2 then 19 else (T.walkP 0 Y).2
set_option maxRecDepth 100000 in
set_option maxHeartbeats 4000000 in
theorem spotOf_any (h : IsT w b mt ml n T) (ht : Tok T) (A : Option Addr) (k c : Nat) (Y : List (List UInt8)) (s : List UInt8) (hX : IsG w 1 encT A (k + 1) (Y ++ [s])) (hkc : k + 1 ≤ c) (hs : ∀ x ∈ Y ++ [s], x.length ≤ 1000) :
    Calls Tryz.prog 55 #[.pointer (some ⟨b, 0, none⟩), .slice A (k + 1) c] w fun e w' => e = .returned (.tuple #[spV (placeP (T.spotF Y) s) s, .int .i64 (T.spotE Y)]) ∧ Below w.heap.size w w' := by
  have hYk : Y.length = k := by have := hX.length; simp at this; omega
  obtain ⟨g, off, rfl, hg, hc⟩ := hX.txt2 (i := k) (z := s) (by rw [List.getElem?_append_right (by omega), hYk]; simp)
  have Hc := Lib.hid hc
  have H := Lib.hid h
  have HY : Hid (IsG w 1 encT (some ⟨g, off, none⟩) k Y) := Lib.hid (by
    have h := hX.take (m := k) (by omega)
    rw [List.take_append_of_le_length (by omega), List.take_of_length_le (by omega)] at h
    exact h)
  have Ht := Lib.hid ht
  have HsY : Hid (∀ x ∈ Y, x.length ≤ 1000) := Lib.hid (fun x hx => hs x (by simp [hx]))
  have hsl : s.length ≤ 1000 := hs s (by simp)
  have hsm := hX.small
  clear h ht hs hX hc
  obtain ⟨F, HF⟩ : ∃ r, Hid (T.spotF Y = r) := ⟨_, Lib.hid rfl⟩
  obtain ⟨E, HE⟩ : ∃ r, Hid (T.spotE Y = r) := ⟨_, Lib.hid rfl⟩
  obtain ⟨P, HP⟩ : ∃ r, Hid (placeP F s = r) := ⟨_, Lib.hid rfl⟩
  rw [HF.out, HE.out, HP.out]
  have hw : IntKind.i64.wrap (((k + 1 : Nat) : Int) - 1) = (k : Int) := by rw [IntWalk.i64_in _ (by omega)]; omega
  have hk1 : (k : Int) < ((k + 1 : Nat) : Int) := by omega
  have hk2 : (k : Int) ≤ (c : Int) := by omega
  have hk3 : (k : Int) < (k : Int) + 1 := by omega
  go_enter Tryz.func55, Tryz.ntmps55
  go_upto_region 1 with (fail)
  obtain ⟨w1, Hw1⟩ : ∃ u, Hid (w.alloc (.cells #[.int .i64 0, .int .i64 0, .string (str [])] 96) = u) := ⟨_, Lib.hid rfl⟩
  obtain ⟨q, Hq⟩ : ∃ u, Hid (w.heap.size = u) := ⟨_, Lib.hid rfl⟩
  have HX : Hid (BoxC w1 q #[.int .i64 0, .int .i64 0, .string (str [])] 96) := Lib.hid (by rw [← Hw1.out, ← Hq.out]; exact BoxC.new w _ _)
  have HB : Hid (Below w.heap.size w w1) := Lib.hid (by rw [← Hw1.out]; exact balloc (Below.refl _ _) _)
  rw [Hw1.out, Hq.out]
  go_wp2_with fail
  refine (walk_any (H.out.below HB.out) Ht.out (some ⟨g, off, none⟩) k c Y (HY.out.below HB.out) HsY.out).mono ?_
  obtain ⟨W2, HW2⟩ : ∃ x, Hid ((T.walkP 0 Y).2 = x) := ⟨_, Lib.hid rfl⟩
  have HFw : Hid ((T.walkP 0 Y).1 = F) := Lib.hid (by rw [← HF.out]; rfl)
  have HFn : Hid (numOk T F) := Lib.hid (by rw [← HFw.out]; exact walk_ok Ht.out Y 0 ⟨Int.le_refl _, Ht.out.last.1⟩)
  rw [HFw.out, HW2.out]
  rintro e w3 ⟨rfl, hb⟩
  have B3 : Hid (Below w.heap.size w w3) := Lib.hid (bnext HB.out hb)
  have X3 := Lib.hid (HX.out.below hb)
  clear hb
  have hgq : g ≠ q := by have := Hq.out; omega
  have hg3 : g < w3.heap.size := by have := B3.out.size; omega
  have kc : ∀ y : In (M1 w3 q), y.u.cell? ⟨g, off + k, none⟩ = some (.string (str s)) := fun y => (y.is.cell (p := ⟨g, off + k, none⟩) hg3 hgq).trans ((B3.out.cell (p := ⟨g, off + k, none⟩) hg).trans Hc.out)
  have HE2 : Hid (E = if W2 = 0 ∧ T.kind F ≠ 2 then 19 else W2) := Lib.hid (by rw [← HE.out, Tr.spotE, HFw.out, HW2.out])
  by_cases hw2 : W2 = 0
  · subst hw2
    go_wp2_with fail
    refine (kind_any (H.out.below B3.out) F (HFn.out.wf Ht.out)).mono ?_
    obtain ⟨Kd, HK⟩ : ∃ x, Hid (T.kind F = x) := ⟨_, Lib.hid rfl⟩
    rw [HK.out]
    rintro e w4 ⟨rfl, rfl⟩
    by_cases hkd : Kd = 2
    · have hq : (Kd != 2) = false := by rw [hkd]; rfl
      have he : E = 0 := by simpa [HK.out, hkd] using HE2.out
      subst he
      clear hkd
      go_upto_region 5 with (fail)
      refine wp_region_mix (by kernel_rfl) (Cls (M1 w3 q)) [(0, 0), (1, 0), (2, 0), (3, 0), (4, 0), (6, 0), (7, 0), (8, 0), (9, 0), (11, 0), (5, 1), (10, 0), (12, 1), (13, 0)] (by kernel_rfl) (cls (Mod.refl _ w3).drew) ?_
      repeat (refine mix0 rfl (fun K hK => ?_); go_simp; refine hK _ ?_; clear hK K)
      refine mix1 rfl (fun K hK => ?_)
      go_simp
      refine (placeOf_any F s (by omega) _).mono ?_
      rw [HP.out]
      rintro e w4 ⟨rfl, hb⟩
      have B4 : Hid (Below w3.heap.size w3 w4) := Lib.hid ((Below.refl _ _).drew.trans hb)
      clear hb
      refine ⟨_, rfl, hK _ _ (cls (m1_below (Mod.refl _ w3) B4.out)) ?_⟩
      clear hK K
      repeat (refine mix0 rfl (fun K hK => ?_); go_simp; refine hK _ ?_; clear hK K)
      have X4 := Lib.hid (X3.out.below B4.out)
      have f0 := X4.out.free 0
      have f1 := X4.out.free 1
      have f2 := X4.out.free 2
      have z0 := X4.out.cell 0 rfl
      have z1 := X4.out.cell 1 rfl
      have z2 := X4.out.cell 2 rfl
      have X5 := Lib.hid (((X4.out.put 0 (.int .i64 P.1)).put 1 (.int .i64 P.2)).put 2 (.string (str s)))
      have M5 : Hid (Mod (· = q) w4 (((w4.setCell ⟨q, 0, none⟩ (.int .i64 P.1)).setCell ⟨q, 1, none⟩ (.int .i64 P.2)).setCell ⟨q, 2, none⟩ (.string (str s)))) := Lib.hid ((((Mod.refl _ w4).set1 _).set1 _).set1 _)
      refine mix1 rfl (fun K hK => ?_)
      go_simp
      refine hK _ _ (cls ((m1_below (Mod.refl _ w3) B4.out).trans M5.out)) ?_
      clear hK K z0 z1 z2 f0 f1 f2
      repeat (refine mix0 rfl (fun K hK => ?_); go_simp; refine hK _ ?_; clear hK K)
      refine mixEnd ?_
      clear kc
      have B5 : Hid (Below w.heap.size w (((w4.setCell ⟨q, 0, none⟩ (.int .i64 P.1)).setCell ⟨q, 1, none⟩ (.int .i64 P.2)).setCell ⟨q, 2, none⟩ (.string (str s)))) := Lib.hid (bmod (bnext B3.out B4.out) M5.out (by have := Hq.out; omega))
      go_wp2
      have s0 := X5.out.cell 0 rfl
      have s1 := X5.out.cell 1 rfl
      have s2 := X5.out.cell 2 rfl
      exact bodyPost_ret (v := .tuple #[spV P s, .int .i64 0]) (by simp [results, Tryz.results55, go_sem, s0, s1, s2]) rfl ⟨rfl, B5.out⟩
    · have hq : (Kd != 2) = true := by simpa using hkd
      have he : E = 19 := by simpa [HK.out, hkd] using HE2.out
      subst he
      clear hkd
      go_upto_region 5 with (fail)
      refine wp_region_mix (by kernel_rfl) (Cls (M1 w3 q)) [(0, 0), (1, 0), (2, 0), (3, 0), (4, 0), (6, 0), (7, 0), (8, 0), (9, 0), (11, 0), (5, 1), (10, 0), (12, 1), (13, 0)] (by kernel_rfl) (cls (Mod.refl _ w3).drew) ?_
      repeat (refine mix0 rfl (fun K hK => ?_); go_simp; refine hK _ ?_; clear hK K)
      refine mix1 rfl (fun K hK => ?_)
      go_simp
      refine (placeOf_any F s (by omega) _).mono ?_
      rw [HP.out]
      rintro e w4 ⟨rfl, hb⟩
      have B4 : Hid (Below w3.heap.size w3 w4) := Lib.hid ((Below.refl _ _).drew.trans hb)
      clear hb
      refine ⟨_, rfl, hK _ _ (cls (m1_below (Mod.refl _ w3) B4.out)) ?_⟩
      clear hK K
      repeat (refine mix0 rfl (fun K hK => ?_); go_simp; refine hK _ ?_; clear hK K)
      have X4 := Lib.hid (X3.out.below B4.out)
      have f0 := X4.out.free 0
      have f1 := X4.out.free 1
      have f2 := X4.out.free 2
      have z0 := X4.out.cell 0 rfl
      have z1 := X4.out.cell 1 rfl
      have z2 := X4.out.cell 2 rfl
      have X5 := Lib.hid (((X4.out.put 0 (.int .i64 P.1)).put 1 (.int .i64 P.2)).put 2 (.string (str s)))
      have M5 : Hid (Mod (· = q) w4 (((w4.setCell ⟨q, 0, none⟩ (.int .i64 P.1)).setCell ⟨q, 1, none⟩ (.int .i64 P.2)).setCell ⟨q, 2, none⟩ (.string (str s)))) := Lib.hid ((((Mod.refl _ w4).set1 _).set1 _).set1 _)
      refine mix1 rfl (fun K hK => ?_)
      go_simp
      refine hK _ _ (cls ((m1_below (Mod.refl _ w3) B4.out).trans M5.out)) ?_
      clear hK K z0 z1 z2 f0 f1 f2
      repeat (refine mix0 rfl (fun K hK => ?_); go_simp; refine hK _ ?_; clear hK K)
      refine mixEnd ?_
      clear kc
      have B5 : Hid (Below w.heap.size w (((w4.setCell ⟨q, 0, none⟩ (.int .i64 P.1)).setCell ⟨q, 1, none⟩ (.int .i64 P.2)).setCell ⟨q, 2, none⟩ (.string (str s)))) := Lib.hid (bmod (bnext B3.out B4.out) M5.out (by have := Hq.out; omega))
      go_wp2
      have s0 := X5.out.cell 0 rfl
      have s1 := X5.out.cell 1 rfl
      have s2 := X5.out.cell 2 rfl
      exact bodyPost_ret (v := .tuple #[spV P s, .int .i64 19]) (by simp [results, Tryz.results55, go_sem, s0, s1, s2]) rfl ⟨rfl, B5.out⟩
  · have hq : (W2 == 0) = false := by simpa using hw2
    have he : E = W2 := by simpa [hw2] using HE2.out
    subst he
    clear hw2
    go_upto_region 5 with (fail)
    refine wp_region_mix (by kernel_rfl) (Cls (M1 w3 q)) [(0, 0), (1, 0), (2, 0), (3, 0), (4, 0), (6, 0), (7, 0), (8, 0), (9, 0), (11, 0), (5, 1), (10, 0), (12, 1), (13, 0)] (by kernel_rfl) (cls (Mod.refl _ w3).drew) ?_
    repeat (refine mix0 rfl (fun K hK => ?_); go_simp; refine hK _ ?_; clear hK K)
    refine mix1 rfl (fun K hK => ?_)
    go_simp
    refine (placeOf_any F s (by omega) _).mono ?_
    rw [HP.out]
    rintro e w4 ⟨rfl, hb⟩
    have B4 : Hid (Below w3.heap.size w3 w4) := Lib.hid ((Below.refl _ _).drew.trans hb)
    clear hb
    refine ⟨_, rfl, hK _ _ (cls (m1_below (Mod.refl _ w3) B4.out)) ?_⟩
    clear hK K
    repeat (refine mix0 rfl (fun K hK => ?_); go_simp; refine hK _ ?_; clear hK K)
    have X4 := Lib.hid (X3.out.below B4.out)
    have f0 := X4.out.free 0
    have f1 := X4.out.free 1
    have f2 := X4.out.free 2
    have z0 := X4.out.cell 0 rfl
    have z1 := X4.out.cell 1 rfl
    have z2 := X4.out.cell 2 rfl
    have X5 := Lib.hid (((X4.out.put 0 (.int .i64 P.1)).put 1 (.int .i64 P.2)).put 2 (.string (str s)))
    have M5 : Hid (Mod (· = q) w4 (((w4.setCell ⟨q, 0, none⟩ (.int .i64 P.1)).setCell ⟨q, 1, none⟩ (.int .i64 P.2)).setCell ⟨q, 2, none⟩ (.string (str s)))) := Lib.hid ((((Mod.refl _ w4).set1 _).set1 _).set1 _)
    refine mix1 rfl (fun K hK => ?_)
    go_simp
    refine hK _ _ (cls ((m1_below (Mod.refl _ w3) B4.out).trans M5.out)) ?_
    clear hK K z0 z1 z2 f0 f1 f2
    repeat (refine mix0 rfl (fun K hK => ?_); go_simp; refine hK _ ?_; clear hK K)
    refine mixEnd ?_
    clear kc
    have B5 : Hid (Below w.heap.size w (((w4.setCell ⟨q, 0, none⟩ (.int .i64 P.1)).setCell ⟨q, 1, none⟩ (.int .i64 P.2)).setCell ⟨q, 2, none⟩ (.string (str s)))) := Lib.hid (bmod (bnext B3.out B4.out) M5.out (by have := Hq.out; omega))
    go_wp2
    have s0 := X5.out.cell 0 rfl
    have s1 := X5.out.cell 1 rfl
    have s2 := X5.out.cell 2 rfl
    exact bodyPost_ret (v := .tuple #[spV P s, .int .i64 E]) (by simp [results, Tryz.results55, go_sem, s0, s1, s2]) rfl ⟨rfl, B5.out⟩
end
end Go.Proofs.YtiomhdanmcnaeaaGreatDoor
end

/-! Where a name would stand, if nothing stands there. -/
section
namespace Go.Proofs.YtiomhdanmcnaeaaGreatDoor
open Go.RowKit

section
variable {w : World} {b n : Nat} {mt ml : Option Nat} {T : Tr}
def Tr.spotP (T : Tr) (Y : List (List UInt8)) (s : List UInt8) : Pl := placeP (T.spotF Y) s
def Tr.vacE (T : Tr) (Y : List (List UInt8)) (s : List UInt8) : Int := if T.spotE Y = 0 ∧ (findN (T.list (T.spotP Y s)) s).2 = true then 17 else T.spotE Y
theorem spotF_ok (h : Tok T) (Y : List (List UInt8)) : numOk T (T.spotF Y) := walk_ok h Y 0 ⟨Int.le_refl _, h.last.1⟩
theorem spotP_wf (h : Tok T) (Y : List (List UInt8)) (s : List UInt8) : (Lit.int .i64 (T.spotP Y s).1).wf = true ∧ (Lit.int .i64 (T.spotP Y s).2).wf = true := placeP_wf ((spotF_ok h Y).wf h) s
set_option maxRecDepth 100000 in
set_option maxHeartbeats 4000000 in
theorem vacant_any (h : IsT w b mt ml n T) (ht : Tok T) (A : Option Addr) (k c : Nat) (Y : List (List UInt8)) (s : List UInt8) (hX : IsG w 1 encT A (k + 1) (Y ++ [s])) (hkc : k + 1 ≤ c) (hs : ∀ x ∈ Y ++ [s], x.length ≤ 1000) :
    Calls Tryz.prog 49 #[.pointer (some ⟨b, 0, none⟩), .slice A (k + 1) c] w fun e w' => e = .returned (.tuple #[spV (T.spotP Y s) s, .int .i64 (T.vacE Y s)]) ∧ Below w.heap.size w w' := by
  have HX0 := Lib.hid hX
  have H := Lib.hid h
  have Ht := Lib.hid ht
  have Hs := Lib.hid hs
  clear h ht hs hX
  have HPw := Lib.hid (spotP_wf Ht.out Y s)
  obtain ⟨E, HE⟩ : ∃ r, Hid (T.vacE Y s = r) := ⟨_, Lib.hid rfl⟩
  obtain ⟨E0, HE0⟩ : ∃ r, Hid (T.spotE Y = r) := ⟨_, Lib.hid rfl⟩
  obtain ⟨P, HP⟩ : ∃ r, Hid (T.spotP Y s = r) := ⟨_, Lib.hid rfl⟩
  obtain ⟨F1, HF1⟩ : ∃ x, Hid ((findN (T.list P) s).1 = x) := ⟨_, Lib.hid rfl⟩
  obtain ⟨F2, HF2⟩ : ∃ x, Hid ((findN (T.list P) s).2 = x) := ⟨_, Lib.hid rfl⟩
  have HE2 : Hid (E = if E0 = 0 ∧ F2 = true then 17 else E0) := Lib.hid (by rw [← HE.out, Tr.vacE, HE0.out, HP.out, HF2.out])
  rw [HP.out] at HPw
  rw [HE.out, HP.out]
  go_enter Tryz.func49, Tryz.ntmps49
  go_upto_region 1 with (fail)
  obtain ⟨w1, Hw1⟩ : ∃ u, Hid (w.alloc (.cells #[.int .i64 0, .int .i64 0, .string (str [])] 96) = u) := ⟨_, Lib.hid rfl⟩
  obtain ⟨q, Hq⟩ : ∃ u, Hid (w.heap.size = u) := ⟨_, Lib.hid rfl⟩
  have HX : Hid (BoxC w1 q #[.int .i64 0, .int .i64 0, .string (str [])] 96) := Lib.hid (by rw [← Hw1.out, ← Hq.out]; exact BoxC.new w _ _)
  have HB : Hid (Below w.heap.size w w1) := Lib.hid (by rw [← Hw1.out]; exact balloc (Below.refl _ _) _)
  rw [Hw1.out, Hq.out]
  go_wp2_with fail
  refine (spotOf_any (H.out.below HB.out) Ht.out A k c Y s (HX0.out.below HB.out) hkc Hs.out).mono ?_
  rw [show placeP (T.spotF Y) s = P from HP.out, HE0.out]
  rintro e w3 ⟨rfl, hb⟩
  have B3 : Hid (Below w.heap.size w w3) := Lib.hid (bnext HB.out hb)
  have X3 := Lib.hid (HX.out.below hb)
  clear hb
  go_upto_region 2 with (fail)
  obtain ⟨w4, Hw4⟩ : ∃ u, Hid (w3.alloc (.cells #[.int .i64 P.1, .int .i64 P.2, .string (str s)] 96) = u) := ⟨_, Lib.hid rfl⟩
  obtain ⟨p, Hp⟩ : ∃ u, Hid (w3.heap.size = u) := ⟨_, Lib.hid rfl⟩
  have X4 : Hid (BoxC w4 p #[.int .i64 P.1, .int .i64 P.2, .string (str s)] 96) := Lib.hid (by rw [← Hw4.out, ← Hp.out]; exact BoxC.new w3 _ _)
  have hb4 : Below w3.heap.size w3 w4 := by rw [← Hw4.out]; exact balloc (Below.refl _ _) _
  have B4 := Lib.hid (bnext B3.out hb4)
  have Q4 := Lib.hid (X3.out.below hb4)
  clear hb4
  rw [Hw4.out, Hp.out]
  have HT := Lib.hid (H.out.below B4.out)
  obtain ⟨B, d, hl, hR, _⟩ := HT.out.look HPw.out.1 HPw.out.2
  have Hl := Lib.hid hl
  have HR := Lib.hid hR
  clear hl hR
  have k0 : ∀ y : In (Abv w4), y.u.cell? ⟨p, 0, none⟩ = some (.int .i64 P.1) := fun y => (X4.out.below y.is).cell 0 rfl
  have k1 : ∀ y : In (Abv w4), y.u.cell? ⟨p, 1, none⟩ = some (.int .i64 P.2) := fun y => (X4.out.below y.is).cell 1 rfl
  have k2 : ∀ y : In (Abv w4), y.u.cell? ⟨p, 2, none⟩ = some (.string (str s)) := fun y => (X4.out.below y.is).cell 2 rfl
  have k3 : ∀ y : In (Abv w4), y.u.cell? ⟨b, 3, none⟩ = some (.map ml) := fun y => (HT.out.below y.is).c3
  have kl : ∀ y : In (Abv w4), (Instr.lookup 39 (.map ml) (.agg #[.int .i64 P.1, .int .i64 P.2]) false).run Tryz.prog y.u = .ok (.slice B (T.list P).length d) y.u := fun y => Hl.out y.u y.is
  refine wp_region_mix (by kernel_rfl) (Cls (Abv w4)) [(0, 0), (1, 0), (2, 0), (3, 0), (4, 0), (5, 0), (6, 0), (7, 0), (8, 0), (9, 1), (10, 0), (11, 0), (12, 0), (13, 0), (14, 0)] (by kernel_rfl) (cls (Below.refl _ _).drew) ?_
  repeat (refine mix0 rfl (fun K hK => ?_); go_simp; refine hK _ ?_; clear hK K)
  refine mix1 rfl (fun K hK => ?_)
  go_simp
  obtain ⟨hI, _⟩ := (HR.out.below (Below.refl _ w4).drew).is encN_ok
  refine (Find_any B _ d (T.list P) s _ hI (by have := (Ht.out.list P).1.len; omega)).mono ?_
  rw [HF1.out, HF2.out]
  rintro e w5 ⟨rfl, hb⟩
  have B5 : Hid (Below w4.heap.size w4 w5) := Lib.hid ((Below.refl _ _).drew.trans hb)
  clear hb hI
  refine ⟨_, rfl, hK _ _ (cls B5.out) ?_⟩
  clear hK K
  repeat (refine mix0 rfl (fun K hK => ?_); go_simp; refine hK _ ?_; clear hK K)
  refine mixEnd ?_
  clear k0 k1 k2 k3 kl
  have Q5 := Lib.hid (Q4.out.below B5.out)
  have X5 := Lib.hid (X4.out.below B5.out)
  have f0 := Q5.out.free 0
  have f1 := Q5.out.free 1
  have f2 := Q5.out.free 2
  have z0 := Q5.out.cell 0 rfl
  have z1 := Q5.out.cell 1 rfl
  have z2 := Q5.out.cell 2 rfl
  have v0 := X5.out.cell 0 rfl
  have v1 := X5.out.cell 1 rfl
  have v2 := X5.out.cell 2 rfl
  have Q6 := Lib.hid (((Q5.out.put 0 (.int .i64 P.1)).put 1 (.int .i64 P.2)).put 2 (.string (str s)))
  have M6 : Hid (Mod (· = q) w5 (((w5.setCell ⟨q, 0, none⟩ (.int .i64 P.1)).setCell ⟨q, 1, none⟩ (.int .i64 P.2)).setCell ⟨q, 2, none⟩ (.string (str s)))) := Lib.hid ((((Mod.refl _ w5).set1 _).set1 _).set1 _)
  have B6 : Hid (Below w.heap.size w (((w5.setCell ⟨q, 0, none⟩ (.int .i64 P.1)).setCell ⟨q, 1, none⟩ (.int .i64 P.2)).setCell ⟨q, 2, none⟩ (.string (str s)))) := Lib.hid (bmod (bnext B4.out B5.out) M6.out (by have := Hq.out; omega))
  by_cases he0 : E0 = 0
  · subst he0
    cases F2 with
    | true =>
      have he : E = 17 := by simpa using HE2.out
      subst he
      go_wp2
      have s0 := Q6.out.cell 0 rfl
      have s1 := Q6.out.cell 1 rfl
      have s2 := Q6.out.cell 2 rfl
      exact bodyPost_ret (v := .tuple #[spV P s, .int .i64 17]) (by simp [results, Tryz.results49, go_sem, s0, s1, s2]) rfl ⟨rfl, B6.out⟩
    | false =>
      have he : E = 0 := by simpa using HE2.out
      subst he
      go_wp2
      have s0 := Q6.out.cell 0 rfl
      have s1 := Q6.out.cell 1 rfl
      have s2 := Q6.out.cell 2 rfl
      exact bodyPost_ret (v := .tuple #[spV P s, .int .i64 0]) (by simp [results, Tryz.results49, go_sem, s0, s1, s2]) rfl ⟨rfl, B6.out⟩
  · have hq : (E0 == 0) = false := by simpa using he0
    have he : E = E0 := by simpa [he0] using HE2.out
    subst he
    clear he0
    go_wp2
    have s0 := Q6.out.cell 0 rfl
    have s1 := Q6.out.cell 1 rfl
    have s2 := Q6.out.cell 2 rfl
    exact bodyPost_ret (v := .tuple #[spV P s, .int .i64 E]) (by simp [results, Tryz.results49, go_sem, s0, s1, s2]) rfl ⟨rfl, B6.out⟩
end
end Go.Proofs.YtiomhdanmcnaeaaGreatDoor
end

/-! How a tree turns in memory: its numbers, its things, its lists. -/
section
namespace Go.Proofs.YtiomhdanmcnaeaaGreatDoor
open Go.RowKit

def updF {α β : Type} [DecidableEq α] (f : α → Option β) (k : α) (v : Option β) : α → Option β := fun i => if i = k then v else f i
theorem updF_same {α β : Type} [DecidableEq α] (f : α → Option β) (k : α) (v : Option β) : updF f k v k = v := if_pos rfl
theorem updF_other {α β : Type} [DecidableEq α] (f : α → Option β) {k i : α} (v : Option β) (h : i ≠ k) : updF f k v i = f i := if_neg h
/-- What has turned from one world to another, of a tree and else: nothing but the tree's own blocks. -/
structure Turn (w w' : World) (b : Nat) (mt ml mt' ml' : Option Nat) : Prop where
  mod : Mod (OwnT b mt ml) w w'
  nt : mt' = mt ∨ ∃ g, mt' = some g ∧ w.heap.size ≤ g
  nl : ml' = ml ∨ ∃ g, ml' = some g ∧ w.heap.size ≤ g
theorem Turn.refl (w : World) (b : Nat) (mt ml : Option Nat) : Turn w w b mt ml mt ml := ⟨Mod.refl _ w, .inl rfl, .inl rfl⟩
theorem Turn.below {w w' : World} (b : Nat) (mt ml : Option Nat) (h : Below w.heap.size w w') : Turn w w' b mt ml mt ml := ⟨Mod.of_below h, .inl rfl, .inl rfl⟩
theorem Turn.trans {w u v : World} {b : Nat} {mt ml mt1 ml1 mt2 ml2 : Option Nat} (h : Turn w u b mt ml mt1 ml1) (k : Turn u v b mt1 ml1 mt2 ml2) : Turn w v b mt ml mt2 ml2 := by
  have hs := h.mod.size
  refine ⟨⟨k.mod.os.trans h.mod.os, k.mod.tape.trans h.mod.tape, k.mod.output.trans h.mod.output, Nat.le_trans hs k.mod.size, fun i hi hn => ?_⟩, ?_, ?_⟩
  · refine (k.mod.block i (by omega) (fun ho => ?_)).trans (h.mod.block i hi hn)
    rcases ho with e | e | e
    · exact hn (.inl e)
    · rcases h.nt with q | ⟨g, q, hg⟩
      · exact hn (.inr (.inl (by rw [← q]; exact e)))
      · rw [q] at e; injection e with e; omega
    · rcases h.nl with q | ⟨g, q, hg⟩
      · exact hn (.inr (.inr (by rw [← q]; exact e)))
      · rw [q] at e; injection e with e; omega
  · rcases k.nt with q | ⟨g, q, hg⟩
    · rw [q]; exact h.nt
    · exact .inr ⟨g, q, by omega⟩
  · rcases k.nl with q | ⟨g, q, hg⟩
    · rw [q]; exact h.nl
    · exact .inr ⟨g, q, by omega⟩
theorem Turn.then {w u v : World} {b : Nat} {mt ml mt1 ml1 : Option Nat} (h : Turn w u b mt ml mt1 ml1) (k : Below u.heap.size u v) : Turn w v b mt ml mt1 ml1 := h.trans (Turn.below b mt1 ml1 k)
section
variable {w w' : World} {b n : Nat} {mt ml : Option Nat} {T : Tr}
/-- Its own block alone has turned: the numbers are others. -/
theorem IsT.nums (h : IsT w b mt ml n T) (m : Mod (· = b) w w') {x y : Int} (c0 : w'.cell? ⟨b, 0, none⟩ = some (.int .i64 x)) (c1 : w'.cell? ⟨b, 1, none⟩ = some (.int .i64 y)) (c2 : w'.cell? ⟨b, 2, none⟩ = some (.map mt)) (c3 : w'.cell? ⟨b, 3, none⟩ = some (.map ml))
    (fr : ∀ o, o < 4 → w'.frozen? ⟨b, o, none⟩ = false) : IsT w' b mt ml n { T with free := x, last := y } := by
  obtain ⟨g, h1, h2⟩ := h.ls
  exact ⟨c0, c1, c2, c3, fr, h.th.later m (fun q e => fun e2 => h.bt (by rw [e, show q = b from e2])), ⟨g, h1.later m (fun q e => fun e2 => h.bl (by rw [e, show q = b from e2])), fun p => (h2 p).later m (fun u q e eq => fun e2 => by
    have h3 := h2 p
    rw [e] at h3
    cases hl : T.ls p with
    | none => rw [hl] at h3; exact h3.elim
    | some l => rw [hl] at h3; exact h3.2 q eq (.inl e2))⟩, h.bt, h.bl, h.tl, h.p0⟩
theorem IsT.setFree (h : IsT w b mt ml n T) (x : Int) : IsT (w.setCell ⟨b, 0, none⟩ (.int .i64 x)) b mt ml n { T with free := x } :=
  h.nums ((Mod.refl _ w).set1 _) (x := x) (y := T.last) (set_same h.c0) (set_other (by simp) h.c1) (set_other (by simp) h.c2) (set_other (by simp) h.c3) (fun o ho => set_frozen (h.fr o ho))
theorem IsT.setLast (h : IsT w b mt ml n T) (x : Int) : IsT (w.setCell ⟨b, 1, none⟩ (.int .i64 x)) b mt ml n { T with last := x } :=
  h.nums ((Mod.refl _ w).set1 _) (x := T.free) (y := x) (set_other (by simp) h.c0) (set_same h.c1) (set_other (by simp) h.c2) (set_other (by simp) h.c3) (fun o ho => set_frozen (h.fr o ho))
theorem turn_own {w w' : World} {b : Nat} (mt ml : Option Nat) (m : Mod (· = b) w w') : Turn w w' b mt ml mt ml := ⟨m.mono fun _ _ e => .inl e, .inl rfl, .inl rfl⟩
theorem LsAt.own {S R : Nat → Prop} {v : Option Value} {l : Option (List Ent)} (h : LsAt w S v l) (hs : ∀ u g, v = some u → blk u = some g → ¬ R g) : LsAt w R v l := by
  cases v with
  | none => cases l with
    | none => trivial
    | some l => exact h
  | some v => cases l with
    | none => exact h
    | some l => exact ⟨h.1, fun g hg => hs v g rfl hg⟩
theorem LsAt.lt {S : Nat → Prop} {v : Value} {l : Option (List Ent)} (h : LsAt w S (some v) l) {g : Nat} (hg : blk v = some g) : g < w.heap.size ∧ ¬ S g := by
  cases l with
  | none => exact h.elim
  | some l => exact ⟨h.1.lt hg, h.2 g hg⟩
/-- A map for its things is made. -/
theorem IsT.makeT (h : IsT w b none ml n T) (u : World) (hu : u = w.setCell ⟨b, 2, none⟩ (.map (some w.heap.size))) : IsT (u.alloc (.map #[] 0)) b (some w.heap.size) ml n T := by
  have hus : u.heap.size = w.heap.size := by rw [hu]; simp [World.setCell]
  have m : Mod (· = b) w u := by rw [hu]; exact (Mod.refl _ w).set1 _
  have hb2 : Below u.heap.size u (u.alloc (.map #[] 0)) := balloc (Below.refl _ _) _
  have hlt := h.lt
  have m2 : Mod (· = b) w (u.alloc (.map #[] 0)) := m.trans (Mod.of_below hb2)
  obtain ⟨g, h1, h2⟩ := h.ls
  have k : ∀ o, (hb2.cell (p := ⟨b, o, none⟩) (by rw [hus]; exact hlt)) = (hb2.cell (p := ⟨b, o, none⟩) (by rw [hus]; exact hlt)) := fun _ => rfl
  have cc : ∀ o, (u.alloc (.map #[] 0)).cell? ⟨b, o, none⟩ = u.cell? ⟨b, o, none⟩ := fun o => hb2.cell (p := ⟨b, o, none⟩) (by rw [hus]; exact hlt)
  have ff : ∀ o, (u.alloc (.map #[] 0)).frozen? ⟨b, o, none⟩ = u.frozen? ⟨b, o, none⟩ := fun o => (Mod.of_below (S := fun _ => False) hb2).frozen (p := ⟨b, o, none⟩) (by rw [hus]; exact hlt) id
  have fn : (fun k => (T.th k).map thV) = fun _ => none := funext h.th
  refine ⟨by rw [cc, hu]; exact set_other (by simp) h.c0, by rw [cc, hu]; exact set_other (by simp) h.c1, by rw [cc, hu]; exact set_same h.c2, by rw [cc, hu]; exact set_other (by simp) h.c3, fun o ho => by rw [ff, hu]; exact set_frozen (h.fr o ho), ?_,
    ⟨g, h1.later m2 (fun q e => fun e2 => h.bl (by rw [e, show q = b from e2])), fun p => ((h2 p).later m2 (fun v q e eq => fun e2 => by
      have h3 := h2 p
      rw [e] at h3
      exact (h3.lt eq).2 (.inl e2))).own (fun v q e eq ho => by
      have h3 := h2 p
      rw [e] at h3
      rcases ho with e2 | e2 | e2
      · exact (h3.lt eq).2 (.inl e2)
      · injection e2 with e2; have := (h3.lt eq).1; omega
      · exact (h3.lt eq).2 (.inr (.inr e2)))⟩, fun e => by injection e with e; omega, h.bl, fun q e e2 => by injection e with e; have := h1.lt e2; omega, fun ho => ?_⟩
  · show IsMapK intD _ w.heap.size n _
    rw [fn, ← hus]
    exact (IsMapK.made u).mono (Nat.zero_le _)
  · rcases ho with e2 | e2 | e2
    · exact h.p0 (.inl e2)
    · injection e2 with e2; omega
    · exact h.p0 (.inr (.inr e2))
/-- .. for its lists. -/
theorem IsT.makeL (h : IsT w b mt none n T) (u : World) (hu : u = w.setCell ⟨b, 3, none⟩ (.map (some w.heap.size))) : IsT (u.alloc (.map #[] 0)) b mt (some w.heap.size) n T := by
  have hus : u.heap.size = w.heap.size := by rw [hu]; simp [World.setCell]
  have m : Mod (· = b) w u := by rw [hu]; exact (Mod.refl _ w).set1 _
  have hb2 : Below u.heap.size u (u.alloc (.map #[] 0)) := balloc (Below.refl _ _) _
  have hlt := h.lt
  have m2 : Mod (· = b) w (u.alloc (.map #[] 0)) := m.trans (Mod.of_below hb2)
  obtain ⟨g, h1, h2⟩ := h.ls
  have cc : ∀ o, (u.alloc (.map #[] 0)).cell? ⟨b, o, none⟩ = u.cell? ⟨b, o, none⟩ := fun o => hb2.cell (p := ⟨b, o, none⟩) (by rw [hus]; exact hlt)
  have ff : ∀ o, (u.alloc (.map #[] 0)).frozen? ⟨b, o, none⟩ = u.frozen? ⟨b, o, none⟩ := fun o => (Mod.of_below (S := fun _ => False) hb2).frozen (p := ⟨b, o, none⟩) (by rw [hus]; exact hlt) id
  have gn : ∀ p, g p = none := h1
  have gn' : g = fun _ => none := funext gn
  refine ⟨by rw [cc, hu]; exact set_other (by simp) h.c0, by rw [cc, hu]; exact set_other (by simp) h.c1, by rw [cc, hu]; exact set_other (by simp) h.c2, by rw [cc, hu]; exact set_same h.c3, fun o ho => by rw [ff, hu]; exact set_frozen (h.fr o ho),
    h.th.later m2 (fun q e => fun e2 => h.bt (by rw [e, show q = b from e2])), ⟨g, ?_, fun p => ((h2 p).later m2 (fun v q e _ => by rw [gn p] at e; cases e)).own (fun v q e _ => by rw [gn p] at e; cases e)⟩, h.bt, fun e => by injection e with e; omega, fun q e e2 => by injection e2 with e2; have := h.th.lt e; omega, fun ho => ?_⟩
  · show IsMapK plD _ w.heap.size n g
    rw [gn', ← hus]
    exact (IsMapK.made u).mono (Nat.zero_le _)
  · rcases ho with e2 | e2 | e2
    · exact h.p0 (.inl e2)
    · exact h.p0 (.inr (.inl e2))
    · injection e2 with e2; omega
/-- One of its maps alone has turned. -/
theorem IsT.things {q : Nat} (h : IsT w b (some q) ml n T) (m : Mod (· = q) w w') {f : Int → Option Thg} {n' : Nat} (hn : n ≤ n') (hm : IsMapK intD w' q n' (fun k => (f k).map thV)) : IsT w' b (some q) ml n' { T with th := f } := by
  obtain ⟨g, h1, h2⟩ := h.ls
  have hbq : b ≠ q := fun e => h.bt (by rw [e])
  have h1' : MapO plD w' ml n' g := by
    have := h1.later m (fun r e => fun e2 => h.tl q rfl (by rw [e, show r = q from e2]))
    cases ml with
    | none => exact this
    | some r => exact IsMapK.mono this hn
  exact ⟨(m.cell (p := ⟨b, 0, none⟩) h.lt hbq).trans h.c0, (m.cell (p := ⟨b, 1, none⟩) h.lt hbq).trans h.c1, (m.cell (p := ⟨b, 2, none⟩) h.lt hbq).trans h.c2, (m.cell (p := ⟨b, 3, none⟩) h.lt hbq).trans h.c3,
    fun o ho => (m.frozen (p := ⟨b, o, none⟩) h.lt hbq).trans (h.fr o ho), hm, ⟨g, h1', fun p => (h2 p).later m (fun u r e er => fun e2 => by
      have h3 := h2 p
      rw [e] at h3
      exact (h3.lt er).2 (.inr (.inl (by rw [show r = q from e2]))))⟩, h.bt, h.bl, h.tl, h.p0⟩
theorem turn_things {q : Nat} (m : Mod (· = q) w w') : Turn w w' b (some q) ml (some q) ml := ⟨m.mono fun _ _ e => .inr (.inl (by rw [show _ = q from e])), .inl rfl, .inl rfl⟩
theorem turn_lists {q : Nat} (m : Mod (· = q) w w') : Turn w w' b mt (some q) mt (some q) := ⟨m.mono fun _ _ e => .inr (.inr (by rw [show _ = q from e])), .inl rfl, .inl rfl⟩
theorem updF_map (f : Int → Option Thg) (k : Int) (x : Option Thg) : (fun i => (updF f k x i).map thV) = putK (fun i => (f i).map thV) k (x.map thV) := by
  funext i
  unfold updF putK
  split <;> rfl
theorem IsT.storeT {q : Nat} (h : IsT w b (some q) ml n T) (hn : n < maxLen) {k : Int} (hk : (Lit.int .i64 k).wf = true) (x : Thg) :
    ∃ w', (Instr.mapUpdate 38 (.map (some q)) (.int .i64 k) (thV x)).run Tryz.prog w = .ok () w' ∧ IsT w' b (some q) ml (n + 1) { T with th := updF T.th k (some x) } ∧ Mod (· = q) w w' := by
  obtain ⟨w', hrun, h1, h2, _⟩ := IsMapK.store (D := intD) h.th Tryz.underlying38 hn (k := k) hk (thV x)
  exact ⟨w', hrun, h.things h2 (Nat.le_succ n) (by rw [updF_map]; exact h1), h2⟩
theorem IsT.dropT {q : Nat} (h : IsT w b (some q) ml n T) {ty : TypeId} {k : Int} (hk : (Lit.int .i64 k).wf = true) :
    ∃ w', (Builtin.delete_ #[38, 3] ty #[.map (some q), .int .i64 k]).run Tryz.prog w = .ok (.tuple #[]) w' ∧ IsT w' b (some q) ml n { T with th := updF T.th k none } ∧ Mod (· = q) w w' := by
  obtain ⟨w', hrun, h1, h2, _⟩ := IsMapK.drop (D := intD) (ty := ty) h.th Tryz.underlying38 (k := k) hk
  exact ⟨w', hrun, h.things h2 (Nat.le_refl n) (by rw [updF_map]; exact h1), h2⟩
theorem IsT.lists {q : Nat} (h : IsT w b mt (some q) n T) (m : Mod (· = q) w w') {f : Pl → Option (List Ent)} {g : Pl → Option Value} {n' : Nat} (hn : n ≤ n') (hm : IsMapK plD w' q n' g) (hl : ∀ p, LsAt w' (OwnT b mt (some q)) (g p) (f p)) : IsT w' b mt (some q) n' { T with ls := f } := by
  have hbq : b ≠ q := fun e => h.bl (by rw [e])
  have h1' : MapO intD w' mt n' (fun k => (T.th k).map thV) := by
    have := h.th.later m (fun r e => fun e2 => h.tl r e (by rw [show r = q from e2]))
    cases mt with
    | none => exact this
    | some r => exact IsMapK.mono this hn
  exact ⟨(m.cell (p := ⟨b, 0, none⟩) h.lt hbq).trans h.c0, (m.cell (p := ⟨b, 1, none⟩) h.lt hbq).trans h.c1, (m.cell (p := ⟨b, 2, none⟩) h.lt hbq).trans h.c2, (m.cell (p := ⟨b, 3, none⟩) h.lt hbq).trans h.c3,
    fun o ho => (m.frozen (p := ⟨b, o, none⟩) h.lt hbq).trans (h.fr o ho), h1', ⟨g, hm, hl⟩, h.bt, h.bl, h.tl, h.p0⟩
theorem IsT.storeL {q : Nat} (h : IsT w b mt (some q) n T) (hn : n < maxLen) {p : Pl} (hp : (Lit.int .i64 p.1).wf = true ∧ (Lit.int .i64 p.2).wf = true) {v : Value} {l : List Ent} (hR : RG w 2 encN v l) (hv : ∀ g, blk v = some g → ¬ OwnT b mt (some q) g) :
    ∃ w', (Instr.mapUpdate 39 (.map (some q)) (plV p) v).run Tryz.prog w = .ok () w' ∧ IsT w' b mt (some q) (n + 1) { T with ls := updF T.ls p (some l) } ∧ Mod (· = q) w w' := by
  obtain ⟨g, h1, h2⟩ := h.ls
  obtain ⟨w', hrun, k1, k2, _⟩ := IsMapK.store (D := plD) h1 Tryz.underlying39 hn (k := p) hp v
  refine ⟨w', hrun, h.lists k2 (Nat.le_succ n) k1 (fun r => ?_), k2⟩
  by_cases e : r = p
  · subst e
    rw [putK_same, updF_same]
    exact ⟨hR.later k2 (fun i hi e2 => hv i hi (.inr (.inr (by rw [show i = q from e2])))), hv⟩
  · rw [putK_other _ _ e, updF_other _ _ e]
    exact (h2 r).later k2 (fun u i e0 er => fun e2 => by
      have h3 := h2 r
      rw [e0] at h3
      exact (h3.lt er).2 (.inr (.inr (by rw [show i = q from e2]))))
theorem IsT.dropL {q : Nat} (h : IsT w b mt (some q) n T) {ty : TypeId} {p : Pl} (hp : (Lit.int .i64 p.1).wf = true ∧ (Lit.int .i64 p.2).wf = true) :
    ∃ w', (Builtin.delete_ #[39, 71] ty #[.map (some q), plV p]).run Tryz.prog w = .ok (.tuple #[]) w' ∧ IsT w' b mt (some q) n { T with ls := updF T.ls p none } ∧ Mod (· = q) w w' := by
  obtain ⟨g, h1, h2⟩ := h.ls
  obtain ⟨w', hrun, k1, k2, _⟩ := IsMapK.drop (D := plD) (ty := ty) h1 Tryz.underlying39 (k := p) hp
  refine ⟨w', hrun, h.lists k2 (Nat.le_refl n) k1 (fun r => ?_), k2⟩
  by_cases e : r = p
  · subst e
    rw [putK_same, updF_same]
    trivial
  · rw [putK_other _ _ e, updF_other _ _ e]
    exact (h2 r).later k2 (fun u i e0 er => fun e2 => by
      have h3 := h2 r
      rw [e0] at h3
      exact (h3.lt er).2 (.inr (.inr (by rw [show i = q from e2]))))
end
end Go.Proofs.YtiomhdanmcnaeaaGreatDoor
end

/-! A thing is set, a list kept, a name put and dropped. -/
section
namespace Go.Proofs.YtiomhdanmcnaeaaGreatDoor
open Go.RowKit

theorem wpList_delete_run {w w' : World} {ops : Array Oper} {rest : List Oper} {o : Oper} {a : Act} {Q : Exit → Act → World → Prop} (hgd : o.guard = none) (m x : Operand) (t kt : TypeId)
    (ho : o.op = .call { callee := .builtin .delete, args := #[m, x], argTypes := #[t, kt] }) (hr : (Builtin.delete_ #[t, kt] o.type #[a.eval m, a.eval x]).run Tryz.prog w = .ok (.tuple #[]) w')
    (h : wpList Tryz.prog ops Q rest (a.put o.dst (.tuple #[])) w') : wpList Tryz.prog ops Q (o :: rest) a w := by
  refine wpList_plain hgd fun K' hK' => ?_
  unfold Oper.wp
  simp [execOp, ho, resolve, invoke, builtin, hr, Result.andThen]
  exact hK' _ _ h
theorem eqMT : ∀ (w : World) (r : Option Nat), (binOp .eql 38 (.map r) (.map none)).run Tryz.prog w = .ok (.bool r.isNone) w := fun w r => run_eql_map_nil w _ _ _ r Tryz.underlying38
theorem eqML : ∀ (w : World) (r : Option Nat), (binOp .eql 39 (.map r) (.map none)).run Tryz.prog w = .ok (.bool r.isNone) w := fun w r => run_eql_map_nil w _ _ _ r Tryz.underlying39
def Tr.setT (T : Tr) (k : Int) (x : Thg) : Int → Option Thg := updF T.th k (if x.2.1 = 0 then none else some x)
def Tr.setP (T : Tr) (k : Int) (x : Thg) : Tr := { T with free := T.free + T.used k - ({ T with th := T.setT k x } : Tr).used k, th := T.setT k x }
theorem used_small (T : Tr) (k : Int) (h : ∀ x, T.th k = some x → x.2.2.length ≤ 100000) : 0 ≤ T.used k ∧ T.used k ≤ 10001 := by
  cases hx : T.th k with
  | none =>
    have e : T.used k = 0 := by unfold Tr.used; rw [hx]
    rw [e]; omega
  | some x =>
    have e : T.used k = 1 + needI (x.2.2.length : Int) := by unfold Tr.used; rw [hx]
    have := h x hx
    have := need_small (x := (x.2.2.length : Int)) (by omega)
    rw [e]; omega
theorem updF_two {α β : Type} [DecidableEq α] (f : α → Option β) (k : α) (v u : Option β) : updF (updF f k v) k u = updF f k u := by
  funext i
  unfold updF
  split <;> rfl
section
variable {w : World} {b n : Nat} {mt ml : Option Nat} {T : Tr}
set_option maxRecDepth 100000 in
set_option maxHeartbeats 4000000 in
theorem set_any (h : IsT w b mt ml n T) (hf : -1000000000000 ≤ T.free ∧ T.free ≤ 2000000000000) (hn : n < 100000000) (k : Int) (hk : (Lit.int .i64 k).wf = true) (x : Thg) (hx : x.2.2.length ≤ 100000) (hd : ∀ y, T.th k = some y → y.2.2.length ≤ 100000) :
    Calls Tryz.prog 53 #[.pointer (some ⟨b, 0, none⟩), .int .i64 k, thV x] w fun e w' => e = .returned (.tuple #[]) ∧ ∃ mt', IsT w' b mt' ml (n + 1) (T.setP k x) ∧ Turn w w' b mt ml mt' ml := by
  have H := Lib.hid h
  have Hf := Lib.hid hf
  have Hd := Lib.hid hd
  have hu1 := used_small T k hd
  have hu2 := used_small ({ T with th := T.setT k x } : Tr) k (fun y hy => by
    have : (if x.2.1 = 0 then none else some x) = some y := by have h := hy; rw [show ({ T with th := T.setT k x } : Tr).th k = T.setT k x k from rfl, Tr.setT, updF_same] at h; exact h
    split at this
    · cases this
    · injection this with this; rw [← this]; exact hx)
  obtain ⟨U, HU⟩ : ∃ z, Hid (T.used k = z) := ⟨_, Lib.hid rfl⟩
  obtain ⟨V, HV⟩ : ∃ z, Hid (({ T with th := T.setT k x } : Tr).used k = z) := ⟨_, Lib.hid rfl⟩
  rw [HU.out] at hu1
  rw [HV.out] at hu2
  obtain ⟨F, HF⟩ : ∃ z, Hid (T.free = z) := ⟨_, Lib.hid rfl⟩
  rw [HF.out] at hf
  have HP : Hid (T.setP k x = { T with free := F + U - V, th := T.setT k x }) := Lib.hid (by rw [Tr.setP, HU.out, HV.out, HF.out])
  have hw1 : IntKind.i64.wrap (F + U) = F + U := IntWalk.i64_in _ (by omega)
  have hw2 : IntKind.i64.wrap (F + U - V) = F + U - V := IntWalk.i64_in _ (by omega)
  have hnm : n < maxLen := by unfold maxLen; omega
  clear h hd
  rw [HP.out]
  go_enter Tryz.func53, Tryz.ntmps53
  go_upto_region 1 with (fail)
  obtain ⟨w1, Hw1⟩ : ∃ u, Hid (w.alloc (.cells #[.int .i64 x.1, .int .i64 x.2.1, .string (str x.2.2)] 65) = u) := ⟨_, Lib.hid rfl⟩
  obtain ⟨q, Hq⟩ : ∃ u, Hid (w.heap.size = u) := ⟨_, Lib.hid rfl⟩
  have HX : Hid (BoxC w1 q #[.int .i64 x.1, .int .i64 x.2.1, .string (str x.2.2)] 65) := Lib.hid (by rw [← Hw1.out, ← Hq.out]; exact BoxC.new w _ _)
  have HB : Hid (Below w.heap.size w w1) := Lib.hid (by rw [← Hw1.out]; exact balloc (Below.refl _ _) _)
  have hbq : q ≠ b := by have := H.out.lt; have := Hq.out; omega
  rw [Hw1.out, Hq.out]
  have H1 := Lib.hid (H.out.below HB.out)
  have k0 : ∀ y : In (Abv w1), y.u.cell? ⟨b, 0, none⟩ = some (.int .i64 F) := fun y => by rw [← HF.out]; exact (H1.out.below y.is).c0
  refine wp_region_mix (by kernel_rfl) (Cls (Abv w1)) [(0, 0), (1, 0), (2, 0), (3, 0), (4, 0), (5, 0), (6, 1), (7, 0), (8, 0), (9, 0), (10, 2)] (by kernel_rfl) (cls (Below.refl _ _).drew) ?_
  repeat (refine mix0 rfl (fun K hK => ?_); go_simp; refine hK _ ?_; clear hK K)
  refine mix1 rfl (fun K hK => ?_)
  go_simp
  refine (used_any (H1.out.below (Below.refl _ w1).drew) k hk Hd.out).mono ?_
  rw [HU.out]
  rintro e w2 ⟨rfl, hb⟩
  have B2 : Hid (Below w1.heap.size w1 w2) := Lib.hid ((Below.refl _ _).drew.trans hb)
  clear hb
  refine ⟨_, rfl, hK _ _ (cls B2.out) ?_⟩
  clear hK K
  repeat (refine mix0 rfl (fun K hK => ?_); go_simp; refine hK _ ?_; clear hK K)
  have H2 := Lib.hid (H1.out.below B2.out)
  have X2 := Lib.hid (HX.out.below B2.out)
  have c0 := H2.out.c0
  have f0 := H2.out.fr 0 (by omega)
  refine mix2 rfl (fun K hK => ?_)
  go_simp
  refine hK _ _ ?_
  clear hK K
  refine mixEnd ?_
  clear k0 c0 f0
  obtain ⟨w3, Hw3⟩ : ∃ u, Hid (w2.setCell ⟨b, 0, none⟩ (.int .i64 (F + U)) = u) := ⟨_, Lib.hid rfl⟩
  have M3 : Mod (· = b) w2 w3 := by rw [← Hw3.out]; exact (Mod.refl _ w2).set1 _
  have H3 : Hid (IsT w3 b mt ml n { T with free := F + U }) := Lib.hid (by rw [← Hw3.out]; exact H2.out.setFree _)
  have X3 := Lib.hid (X2.out.kept M3 hbq)
  have T3 : Hid (Turn w w3 b mt ml mt ml) := Lib.hid ((Turn.below b mt ml (bnext HB.out B2.out)).trans (turn_own mt ml M3))
  rw [Hw3.out]
  clear M3
  have heq := eqMT
  have c2 := H3.out.c2
  have f2 := H3.out.fr 2 (by omega)
  go_upto_if 20 with (fail)
  go_cut [1] (fun v wx => v = .int .i64 k ∧ ∃ g, Hid (IsT wx b (some g) ml n { T with free := F + U }) ∧ Hid (Turn w wx b mt ml (some g) ml) ∧ Hid (BoxC wx q #[.int .i64 x.1, .int .i64 x.2.1, .string (str x.2.2)] 65))
  case first =>
    have hmm := @run_makeMap Tryz.prog
    cases mt with
    | some g =>
      go_wp2
      go_meet
      exact ⟨rfl, g, H3, T3, X3⟩
    | none =>
      have H4 := Lib.hid (H3.out.makeT (w3.setCell ⟨b, 2, none⟩ (.map (some w3.heap.size))) rfl)
      have M4 : Hid (Mod (· = b) w3 ((w3.setCell ⟨b, 2, none⟩ (.map (some w3.heap.size))).alloc (.map #[] 0))) := Lib.hid (((Mod.refl _ w3).set1 _).alloc _)
      have X4 := Lib.hid (X3.out.kept M4.out hbq)
      have T4 : Hid (Turn w ((w3.setCell ⟨b, 2, none⟩ (.map (some w3.heap.size))).alloc (.map #[] 0)) b none ml (some w3.heap.size) ml) := Lib.hid (T3.out.trans ⟨M4.out.mono fun _ _ e => .inl e, .inr ⟨_, rfl, Nat.le_refl _⟩, .inl rfl⟩)
      have hlt := H3.out.lt
      go_wp2
      go_meet
      exact ⟨rfl, _, H4, T4, X4⟩
  case rest =>
    obtain ⟨rfl, g, H5, T5, X5⟩ := hcut
    clear c2 f2 heq H3 X3 T3
    obtain ⟨w5, Hw5⟩ : ∃ u, Hid (wc = u) := ⟨_, Lib.hid rfl⟩
    rw [Hw5.out] at H5 T5 X5
    rw [Hw5.out]
    go_upto_region 4 with (fail)
    have c2 : ∀ y : In (Abv w5), y.u.cell? ⟨b, 2, none⟩ = some (.map (some g)) := fun y => (H5.out.below y.is).c2
    have q0 : ∀ y : In (Abv w5), y.u.cell? ⟨q, 0, none⟩ = some (.int .i64 x.1) := fun y => (X5.out.below y.is).cell 0 rfl
    have q1 : ∀ y : In (Abv w5), y.u.cell? ⟨q, 1, none⟩ = some (.int .i64 x.2.1) := fun y => (X5.out.below y.is).cell 1 rfl
    have q2 : ∀ y : In (Abv w5), y.u.cell? ⟨q, 2, none⟩ = some (.string (str x.2.2)) := fun y => (X5.out.below y.is).cell 2 rfl
    obtain ⟨w6, hrun, h6, m6⟩ := (H5.out.below (Below.refl _ _).drew).storeT hnm hk x
    have H6 := Lib.hid h6
    have M6 : Hid (Mod (· = g) w5 w6) := Lib.hid (((Mod.refl _ w5).drew).trans m6)
    clear h6 m6
    have hqg : q ≠ g := fun e => by
      obtain ⟨es, clock, hm, _⟩ : IsMapK intD w5 g n _ := H5.out.th
      have hx := X5.out.blk
      rw [e, hm] at hx
      cases hx
    refine wp_region_mix (by kernel_rfl) (Cls (Abv w5)) [(0, 0), (1, 0), (2, 0), (3, 0), (4, 0), (5, 0), (6, 2)] (by kernel_rfl) (cls (Below.refl _ _).drew) ?_
    repeat (refine mix0 rfl (fun K hK => ?_); go_simp; refine hK _ ?_; clear hK K)
    have hrun' : (Instr.mapUpdate 38 (.map (some g)) (.int .i64 k) (.agg #[.int .i64 x.1, .int .i64 x.2.1, .string (str x.2.2)])).run Tryz.prog w5.drew = .ok () w6 := hrun
    refine mix2 rfl (fun K hK => ?_)
    go_simp
    refine hK _ _ ?_
    clear hK K hrun hrun' c2 q0 q1 q2
    refine mixEnd ?_
    have X6 := Lib.hid (X5.out.kept M6.out hqg)
    have T6 := Lib.hid (T5.out.trans (turn_things M6.out))
    have r1 := X6.out.cell 1 rfl
    have c2 := H6.out.c2
    go_upto_if 33 with (fail)
    clear r1 c2
    go_cut [1] (fun v wx => v = .int .i64 k ∧ Hid (IsT wx b (some g) ml (n + 1) { T with free := F + U, th := T.setT k x }) ∧ Hid (Turn w wx b mt ml (some g) ml))
    case first =>
      by_cases h0 : x.2.1 = 0
      · have hq : (x.2.1 == 0) = true := by simpa using h0
        have c2 := H6.out.c2
        obtain ⟨w7, hrun7, h7, m7⟩ := H6.out.dropT (ty := 0) hk
        have H7 : Hid (IsT w7 b (some g) ml (n + 1) { T with free := F + U, th := T.setT k x }) := Lib.hid (by
          have e : T.setT k x = updF (updF T.th k (some x)) k none := by rw [updF_two, Tr.setT, if_pos h0]
          rw [e]; exact h7)
        have T7 := Lib.hid (T6.out.trans (turn_things m7))
        clear h7 m7 h0
        go_wp2_with (at_delete; refine wpList_delete_run rfl (.tmp 37) (.tmp 38) 38 3 rfl hrun7 ?_)
        go_wp2
        go_meet
        exact ⟨rfl, H7, T7⟩
      · have hq : (x.2.1 == 0) = false := by simpa using h0
        have H7 : Hid (IsT w6 b (some g) ml (n + 1) { T with free := F + U, th := T.setT k x }) := Lib.hid (by
          have e : T.setT k x = updF T.th k (some x) := by rw [Tr.setT, if_neg h0]
          rw [e]; exact H6.out)
        clear h0
        go_wp2
        go_meet
        exact ⟨rfl, H7, T6⟩
    case rest =>
      obtain ⟨rfl, H7, T7⟩ := hcut
      clear H6 T6 X6 H5 T5 X5
      obtain ⟨w7, Hw7⟩ : ∃ u, Hid (wc = u) := ⟨_, Lib.hid rfl⟩
      rw [Hw7.out] at H7 T7
      rw [Hw7.out]
      go_upto_region 7 with (fail)
      have k0 : ∀ y : In (Abv w7), y.u.cell? ⟨b, 0, none⟩ = some (.int .i64 (F + U)) := fun y => (H7.out.below y.is).c0
      refine wp_region_mix (by kernel_rfl) (Cls (Abv w7)) [(0, 0), (1, 0), (2, 0), (3, 0), (4, 0), (5, 0), (6, 1), (7, 0), (8, 0), (9, 0), (10, 2)] (by kernel_rfl) (cls (Below.refl _ _).drew) ?_
      repeat (refine mix0 rfl (fun K hK => ?_); go_simp; refine hK _ ?_; clear hK K)
      refine mix1 rfl (fun K hK => ?_)
      go_simp
      refine (used_any (H7.out.below (Below.refl _ w7).drew) k hk (fun y hy => ?_)).mono ?_
      · have h2 : (if x.2.1 = 0 then none else some x) = some y := by
          have h := hy
          rw [show ({ T with free := F + U, th := T.setT k x } : Tr).th k = T.setT k x k from rfl, Tr.setT, updF_same] at h
          exact h
        split at h2
        · cases h2
        · injection h2 with h2; rw [← h2]; exact hx
      rw [show ({ T with free := F + U, th := T.setT k x } : Tr).used k = V from HV.out]
      rintro e w8 ⟨rfl, hb⟩
      have B8 : Hid (Below w7.heap.size w7 w8) := Lib.hid ((Below.refl _ _).drew.trans hb)
      clear hb
      refine ⟨_, rfl, hK _ _ (cls B8.out) ?_⟩
      clear hK K
      repeat (refine mix0 rfl (fun K hK => ?_); go_simp; refine hK _ ?_; clear hK K)
      have H8 := Lib.hid (H7.out.below B8.out)
      have c0 := H8.out.c0
      have f0 := H8.out.fr 0 (by omega)
      refine mix2 rfl (fun K hK => ?_)
      go_simp
      refine hK _ _ ?_
      clear hK K
      refine mixEnd ?_
      clear k0 c0 f0
      have H9 := Lib.hid (H8.out.setFree (F + U - V))
      have T9 : Hid (Turn w (w8.setCell ⟨b, 0, none⟩ (.int .i64 (F + U - V))) b mt ml (some g) ml) := Lib.hid ((T7.out.then B8.out).trans (turn_own (some g) ml ((Mod.refl _ w8).set1 _)))
      go_wp2
      exact bodyPost_end (results_none rfl _ _ _) rfl ⟨rfl, some g, H9.out, T9.out⟩
end
end Go.Proofs.YtiomhdanmcnaeaaGreatDoor
end

/-! A list is kept in its place; a name is put, and dropped. -/
section
namespace Go.Proofs.YtiomhdanmcnaeaaGreatDoor
open Go.RowKit

def Tr.keepL (T : Tr) (p : Pl) (l : List Ent) : Pl → Option (List Ent) := updF T.ls p (if l = [] then none else some l)
def Tr.keepP (T : Tr) (p : Pl) (l : List Ent) : Tr := { T with free := T.free - moreI (T.size p : Int) (sizeN l : Int), ls := T.keepL p l }
section
variable {w : World} {b n : Nat} {mt ml : Option Nat} {T : Tr}
set_option maxRecDepth 100000 in
set_option maxHeartbeats 4000000 in
theorem keep_any (h : IsT w b mt ml n T) (ht : Tok T) (hn : n < 100000000) (p : Pl) (h1 : (Lit.int .i64 p.1).wf = true) (h2 : (Lit.int .i64 p.2).wf = true) (A : Option Addr) (m c : Nat) (l : List Ent) (hR : RG w 2 encN (.slice A m c) l) (hv : ∀ g, blk (.slice A m c) = some g → ¬ OwnT b mt ml g) (hl : l.length ≤ 1000) (hls : ∀ e ∈ l, e.1.length ≤ 1000) (hsz : sizeN l ≤ 100000) :
    Calls Tryz.prog 79 #[.pointer (some ⟨b, 0, none⟩), plV p, .slice A m c] w fun e w' => e = .returned (.tuple #[]) ∧ ∃ ml', IsT w' b mt ml' (n + 1) (T.keepP p l) ∧ Turn w w' b mt ml mt ml' := by
  obtain rfl : m = l.length := by
    obtain ⟨A', c', e⟩ := hR.shape
    injection e with _ e _
  have H := Lib.hid h
  have Ht := Lib.hid ht
  have HR := Lib.hid hR
  have Hv := Lib.hid hv
  have Hls := Lib.hid hls
  obtain ⟨F, HF⟩ : ∃ z, Hid (T.free = z) := ⟨_, Lib.hid rfl⟩
  have hf := ht.free
  rw [HF.out] at hf
  obtain ⟨M, HM⟩ : ∃ r, Hid (moreI (T.size p : Int) (sizeN l : Int) = r) := ⟨_, Lib.hid rfl⟩
  have hts := (ht.list p).1.size
  have hM : -10000 ≤ M ∧ M ≤ 10000 := by
    rw [← HM.out]
    have a1 := need_small (x := ((T.size p : Nat) : Int)) (by unfold Tr.size; omega)
    have a2 := need_small (x := ((sizeN l : Nat) : Int)) (by omega)
    unfold moreI
    omega
  have hw1 : IntKind.i64.wrap (F - M) = F - M := IntWalk.i64_in _ (by omega)
  have HP : Hid (T.keepP p l = { T with free := F - M, ls := T.keepL p l }) := Lib.hid (by rw [Tr.keepP, HF.out, HM.out])
  have hnm : n < maxLen := by unfold maxLen; omega
  clear h ht hR hv hls
  rw [HP.out]
  go_enter Tryz.func79, Tryz.ntmps79
  go_upto_region 1 with (fail)
  obtain ⟨w1, Hw1⟩ : ∃ u, Hid (w.alloc (.cells #[.int .i64 p.1, .int .i64 p.2] 71) = u) := ⟨_, Lib.hid rfl⟩
  obtain ⟨q, Hq⟩ : ∃ u, Hid (w.heap.size = u) := ⟨_, Lib.hid rfl⟩
  have HX : Hid (BoxC w1 q #[.int .i64 p.1, .int .i64 p.2] 71) := Lib.hid (by rw [← Hw1.out, ← Hq.out]; exact BoxC.new w _ _)
  have HB : Hid (Below w.heap.size w w1) := Lib.hid (by rw [← Hw1.out]; exact balloc (Below.refl _ _) _)
  have hbq : q ≠ b := by have := H.out.lt; have := Hq.out; omega
  rw [Hw1.out, Hq.out]
  have H1 := Lib.hid (H.out.below HB.out)
  have k0 : ∀ y : In (Abv w1), y.u.cell? ⟨b, 0, none⟩ = some (.int .i64 F) := fun y => by rw [← HF.out]; exact (H1.out.below y.is).c0
  have q0 : ∀ y : In (Abv w1), y.u.cell? ⟨q, 0, none⟩ = some (.int .i64 p.1) := fun y => (HX.out.below y.is).cell 0 rfl
  have q1 : ∀ y : In (Abv w1), y.u.cell? ⟨q, 1, none⟩ = some (.int .i64 p.2) := fun y => (HX.out.below y.is).cell 1 rfl
  refine wp_region_mix (by kernel_rfl) (Cls (Abv w1)) [(0, 0), (1, 0), (2, 0), (3, 0), (4, 0), (5, 0), (7, 0), (6, 1), (8, 1), (9, 1), (10, 0), (11, 0), (12, 0), (13, 2)] (by kernel_rfl) (cls (Below.refl _ _).drew) ?_
  repeat (refine mix0 rfl (fun K hK => ?_); go_simp; refine hK _ ?_; clear hK K)
  refine mix1 rfl (fun K hK => ?_)
  go_simp
  refine (size_any (H1.out.below (Below.refl _ w1).drew) p h1 h2 (Ht.out.list p).1).mono ?_
  rintro e w2 ⟨rfl, hb⟩
  have B2 : Hid (Below w1.heap.size w1 w2) := Lib.hid ((Below.refl _ _).drew.trans hb)
  clear hb
  refine ⟨_, rfl, hK _ _ (cls B2.out) ?_⟩
  clear hK K
  repeat (refine mix0 rfl (fun K hK => ?_); go_simp; refine hK _ ?_; clear hK K)
  refine mix1 rfl (fun K hK => ?_)
  go_simp
  obtain ⟨hI, _⟩ := ((HR.out.below HB.out).below B2.out).is encN_ok
  refine (Size_any l A _ c _ hI Hls.out hl).mono ?_
  rintro e w2' ⟨rfl, hb⟩
  have B2' : Hid (Below w1.heap.size w1 w2') := Lib.hid (bnext B2.out hb)
  clear hb hI
  refine ⟨_, rfl, hK _ _ (cls B2'.out) ?_⟩
  clear hK K
  repeat (refine mix0 rfl (fun K hK => ?_); go_simp; refine hK _ ?_; clear hK K)
  refine mix1 rfl (fun K hK => ?_)
  go_simp
  refine (more_any (T.size p : Int) (sizeN l : Int) (by unfold Tr.size; omega) (by omega) _).mono ?_
  rw [HM.out]
  rintro e w2'' ⟨rfl, rfl⟩
  refine ⟨_, rfl, hK _ _ (cls B2'.out) ?_⟩
  clear hK K
  repeat (refine mix0 rfl (fun K hK => ?_); go_simp; refine hK _ ?_; clear hK K)
  have H2 := Lib.hid (H1.out.below B2'.out)
  have X2 := Lib.hid (HX.out.below B2'.out)
  have c0 := H2.out.c0
  have f0 := H2.out.fr 0 (by omega)
  refine mix2 rfl (fun K hK => ?_)
  go_simp
  refine hK _ _ ?_
  clear hK K
  refine mixEnd ?_
  clear k0 c0 f0 q0 q1
  obtain ⟨w3, Hw3⟩ : ∃ u, Hid (w2'.setCell ⟨b, 0, none⟩ (.int .i64 (F - M)) = u) := ⟨_, Lib.hid rfl⟩
  have M3 : Mod (· = b) w2' w3 := by rw [← Hw3.out]; exact (Mod.refl _ w2').set1 _
  have H3 : Hid (IsT w3 b mt ml n { T with free := F - M }) := Lib.hid (by rw [← Hw3.out]; exact H2.out.setFree _)
  have X3 := Lib.hid (X2.out.kept M3 hbq)
  have T3 : Hid (Turn w w3 b mt ml mt ml) := Lib.hid ((Turn.below b mt ml (bnext HB.out B2'.out)).trans (turn_own mt ml M3))
  have HR3 : Hid (RG w3 2 encN (.slice A l.length c) l) := Lib.hid (((HR.out.below HB.out).below B2'.out).later M3 (fun g hg e => Hv.out g hg (.inl e)))
  have Hvl : Hid (∀ g, blk (.slice A l.length c) = some g → g < w.heap.size) := Lib.hid (fun g hg => HR.out.lt hg)
  rw [Hw3.out]
  clear M3
  have heq := eqML
  have c3 := H3.out.c3
  have f3 := H3.out.fr 3 (by omega)
  go_upto_if 23 with (fail)
  go_cut [4] (fun v wx => v = .pointer (some ⟨q, 0, none⟩) ∧ ∃ g, Hid (IsT wx b mt (some g) n { T with free := F - M }) ∧ Hid (Turn w wx b mt ml mt (some g)) ∧ Hid (BoxC wx q #[.int .i64 p.1, .int .i64 p.2] 71) ∧ Hid (RG wx 2 encN (.slice A l.length c) l) ∧ Hid (∀ r, blk (.slice A l.length c) = some r → ¬ OwnT b mt (some g) r))
  case first =>
    have hmm := @run_makeMap Tryz.prog
    cases ml with
    | some g =>
      go_wp2
      go_meet
      exact ⟨rfl, g, H3, T3, X3, HR3, Hv⟩
    | none =>
      have H4 := Lib.hid (H3.out.makeL (w3.setCell ⟨b, 3, none⟩ (.map (some w3.heap.size))) rfl)
      have M4 : Hid (Mod (· = b) w3 ((w3.setCell ⟨b, 3, none⟩ (.map (some w3.heap.size))).alloc (.map #[] 0))) := Lib.hid (((Mod.refl _ w3).set1 _).alloc _)
      have X4 := Lib.hid (X3.out.kept M4.out hbq)
      have T4 : Hid (Turn w ((w3.setCell ⟨b, 3, none⟩ (.map (some w3.heap.size))).alloc (.map #[] 0)) b mt none mt (some w3.heap.size)) := Lib.hid (T3.out.trans ⟨M4.out.mono fun _ _ e => .inl e, .inl rfl, .inr ⟨_, rfl, Nat.le_refl _⟩⟩)
      have HR4 := Lib.hid (HR3.out.later M4.out (fun g hg e => Hv.out g hg (.inl e)))
      have Hv4 : Hid (∀ r, blk (.slice A l.length c) = some r → ¬ OwnT b mt (some w3.heap.size) r) := Lib.hid (fun r hr ho => by
        rcases ho with e | e | e
        · exact Hv.out r hr (.inl e)
        · exact Hv.out r hr (.inr (.inl e))
        · injection e with e; have := HR3.out.lt hr; omega)
      have hlt := H3.out.lt
      go_wp2
      go_meet
      exact ⟨rfl, _, H4, T4, X4, HR4, Hv4⟩
  case rest =>
    obtain ⟨rfl, g, H5, T5, X5, HR5, Hv5⟩ := hcut
    clear c3 f3 heq H3 X3 T3 HR3
    obtain ⟨w5, Hw5⟩ : ∃ u, Hid (wc = u) := ⟨_, Lib.hid rfl⟩
    rw [Hw5.out] at H5 T5 X5 HR5
    rw [Hw5.out]
    go_upto_region 4 with (fail)
    have c3 : ∀ y : In (Abv w5), y.u.cell? ⟨b, 3, none⟩ = some (.map (some g)) := fun y => (H5.out.below y.is).c3
    have q0 : ∀ y : In (Abv w5), y.u.cell? ⟨q, 0, none⟩ = some (.int .i64 p.1) := fun y => (X5.out.below y.is).cell 0 rfl
    have q1 : ∀ y : In (Abv w5), y.u.cell? ⟨q, 1, none⟩ = some (.int .i64 p.2) := fun y => (X5.out.below y.is).cell 1 rfl
    obtain ⟨w6, hrun, h6, m6⟩ := (H5.out.below (Below.refl _ _).drew).storeL hnm (p := p) ⟨h1, h2⟩ (HR5.out.below (Below.refl _ _).drew) Hv5.out
    have H6 := Lib.hid h6
    have M6 : Hid (Mod (· = g) w5 w6) := Lib.hid (((Mod.refl _ w5).drew).trans m6)
    clear h6 m6
    have hqg : q ≠ g := fun e => by
      obtain ⟨G, h1', _⟩ := H5.out.ls
      obtain ⟨es, clock, hm, _⟩ : IsMapK plD w5 g n G := h1'
      have hx := X5.out.blk
      rw [e, hm] at hx
      cases hx
    refine wp_region_mix (by kernel_rfl) (Cls (Abv w5)) [(0, 0), (1, 0), (2, 0), (3, 0), (4, 0), (5, 0), (6, 2)] (by kernel_rfl) (cls (Below.refl _ _).drew) ?_
    repeat (refine mix0 rfl (fun K hK => ?_); go_simp; refine hK _ ?_; clear hK K)
    have hrun' : (Instr.mapUpdate 39 (.map (some g)) (.agg #[.int .i64 p.1, .int .i64 p.2]) (.slice A l.length c)).run Tryz.prog w5.drew = .ok () w6 := hrun
    refine mix2 rfl (fun K hK => ?_)
    go_simp
    refine hK _ _ ?_
    clear hK K hrun hrun' c3 q0 q1
    refine mixEnd ?_
    have X6 := Lib.hid (X5.out.kept M6.out hqg)
    have T6 := Lib.hid (T5.out.trans (turn_lists M6.out))
    by_cases h0 : l.length = 0
    · have hl0 : l = [] := List.eq_nil_of_length_eq_zero h0
      have hq : ((l.length : Int) == 0) = true := by rw [h0]; rfl
      obtain ⟨w7, hrun7, h7, m7⟩ := (H6.out.below (Below.refl _ _).drew).dropL (ty := 0) (p := p) ⟨h1, h2⟩
      have H7 : Hid (IsT w7 b mt (some g) (n + 1) { T with free := F - M, ls := T.keepL p l }) := Lib.hid (by
        have e : T.keepL p l = updF (updF T.ls p (some l)) p none := by rw [updF_two, Tr.keepL, if_pos hl0]
        rw [e]; exact h7)
      have M7 : Hid (Mod (· = g) w6 w7) := Lib.hid (((Mod.refl _ w6).drew).trans m7)
      have T7 := Lib.hid (T6.out.trans (turn_lists M7.out))
      have hbg : b ≠ g := fun e => H6.out.bl (by rw [e])
      have c3 : ∀ y : In (M1 w6 g), y.u.cell? ⟨b, 3, none⟩ = some (.map (some g)) := fun y => (y.is.cell (p := ⟨b, 3, none⟩) H6.out.lt hbg).trans H6.out.c3
      have q0 : ∀ y : In (M1 w6 g), y.u.cell? ⟨q, 0, none⟩ = some (.int .i64 p.1) := fun y => (X6.out.kept y.is hqg).cell 0 rfl
      have q1 : ∀ y : In (M1 w6 g), y.u.cell? ⟨q, 1, none⟩ = some (.int .i64 p.2) := fun y => (X6.out.kept y.is hqg).cell 1 rfl
      clear h7 m7 h0 hl0
      go_upto_region 6 with (fail)
      refine wp_region_mix (by kernel_rfl) (Cls (M1 w6 g)) [(0, 0), (1, 0), (2, 0), (3, 0), (4, 0), (5, 1)] (by kernel_rfl) (cls (Mod.refl _ w6).drew) ?_
      repeat (refine mix0 rfl (fun K hK => ?_); go_simp; refine hK _ ?_; clear hK K)
      have hrun8 : (Builtin.delete_ #[39, 71] 0 #[.map (some g), .agg #[.int .i64 p.1, .int .i64 p.2]]).run Tryz.prog w6.drew = .ok (.tuple #[]) w7 := hrun7
      refine mix1 rfl (fun K hK => ?_)
      go_simp
      refine hK _ _ (cls M7.out) ?_
      clear hK K
      refine mixEnd ?_
      go_wp2
      exact bodyPost_end (results_none rfl _ _ _) rfl ⟨rfl, some g, H7.out, T7.out⟩
    · have hl0 : l ≠ [] := fun e => h0 (by rw [e]; rfl)
      have hq : ((l.length : Int) == 0) = false := by simpa using h0
      have H7 : Hid (IsT w6 b mt (some g) (n + 1) { T with free := F - M, ls := T.keepL p l }) := Lib.hid (by
        have e : T.keepL p l = updF T.ls p (some l) := by rw [Tr.keepL, if_neg hl0]
        rw [e]; exact H6.out)
      clear h0
      go_wp2
      exact bodyPost_end (results_none rfl _ _ _) rfl ⟨rfl, some g, H7.out, T6.out⟩
def Tr.putP (T : Tr) (p : Pl) (s : List UInt8) (k : Int) : Tr := T.keepP p (putN (T.list p) (s, k))
def Tr.dropP (T : Tr) (p : Pl) (s : List UInt8) : Tr := T.keepP p (dropN (T.list p) s)
theorem putN_ok {l : List Ent} (h : ListOk l) {s : List UInt8} {k : Int} (hs : s.length ≤ 1000) (hsz : sizeN (putN l (s, k)) ≤ 6144) (h1 : 1 ≤ s.length) : (putN l (s, k)).length ≤ 1000 ∧ ∀ e ∈ putN l (s, k), 1 ≤ e.1.length ∧ e.1.length ≤ 1000 := by
  have hm : ∀ e ∈ putN l (s, k), 1 ≤ e.1.length ∧ e.1.length ≤ 1000 := by
    intro e he
    unfold putN at he
    split at he
    · simp only [List.mem_append, List.mem_singleton] at he
      rcases he with (he | rfl) | he
      · exact h.name e (List.mem_of_mem_take he)
      · exact ⟨h1, hs⟩
      · exact h.name e (List.mem_of_mem_drop he)
    · simp only [List.mem_append, List.mem_singleton] at he
      rcases he with (he | rfl) | he
      · exact h.name e (List.mem_of_mem_take he)
      · exact ⟨h1, hs⟩
      · exact h.name e (List.mem_of_mem_drop he)
  have := sizeN_ge (fun e he => (hm e he).1)
  exact ⟨by omega, hm⟩
theorem dropN_mem {l : List Ent} {s : List UInt8} {e : Ent} (he : e ∈ dropN l s) : e ∈ l := by
  unfold dropN at he
  split at he
  · simp only [List.append_nil, List.mem_append] at he
    rcases he with he | he
    · exact List.mem_of_mem_take he
    · exact List.mem_of_mem_drop he
  · exact he
theorem sizeN_app (a b : List Ent) : sizeN (a ++ b) = sizeN a + sizeN b := by simp [sizeN]
theorem sizeN_cut (l : List Ent) (i : Nat) : sizeN (l.take i) + sizeN (l.drop i) = sizeN l := by rw [← sizeN_app, List.take_append_drop]
theorem sizeN_drop_le (l : List Ent) (i : Nat) : sizeN (l.drop (i + 1)) ≤ sizeN (l.drop i) := by
  have h := sizeN_cut (l.drop i) 1
  rw [List.drop_drop] at h
  omega
theorem dropN_size (l : List Ent) (s : List UInt8) : sizeN (dropN l s) ≤ sizeN l ∧ (dropN l s).length ≤ l.length := by
  unfold dropN
  split
  · rw [List.append_nil, sizeN_app]
    have h1 := sizeN_cut l (atN l s)
    have h2 := sizeN_drop_le l (atN l s)
    refine ⟨by omega, ?_⟩
    rw [List.length_append, List.length_take, List.length_drop]
    omega
  · exact ⟨Nat.le_refl _, Nat.le_refl _⟩
theorem dropN_ok {l : List Ent} (h : ListOk l) (s : List UInt8) : ListOk (dropN l s) :=
  ⟨Nat.le_trans (dropN_size l s).1 h.size, fun e he => h.name e (dropN_mem he)⟩
set_option maxRecDepth 100000 in
set_option maxHeartbeats 4000000 in
theorem put_any (h : IsT w b mt ml n T) (ht : Tok T) (hn : n < 100000000) (p : Pl) (s : List UInt8) (k : Int) (h1 : (Lit.int .i64 p.1).wf = true) (h2 : (Lit.int .i64 p.2).wf = true) (hs : 1 ≤ s.length ∧ s.length ≤ 1000) (hsz : sizeN (putN (T.list p) (s, k)) ≤ 6144) :
    Calls Tryz.prog 54 #[.pointer (some ⟨b, 0, none⟩), spV p s, .int .i64 k] w fun e w' => e = .returned (.tuple #[]) ∧ ∃ ml', IsT w' b mt ml' (n + 1) (T.putP p s k) ∧ Turn w w' b mt ml mt ml' := by
  have H := Lib.hid h
  have Ht := Lib.hid ht
  obtain ⟨hpl, hpn⟩ := putN_ok (ht.list p).1 (k := k) hs.2 hsz hs.1
  have Hpn := Lib.hid hpn
  clear h ht hpn
  go_enter Tryz.func54, Tryz.ntmps54
  go_upto_region 1 with (fail)
  obtain ⟨w1, Hw1⟩ : ∃ u, Hid (w.alloc (.cells #[.int .i64 p.1, .int .i64 p.2, .string (str s)] 96) = u) := ⟨_, Lib.hid rfl⟩
  obtain ⟨q, Hq⟩ : ∃ u, Hid (w.heap.size = u) := ⟨_, Lib.hid rfl⟩
  have HX : Hid (BoxC w1 q #[.int .i64 p.1, .int .i64 p.2, .string (str s)] 96) := Lib.hid (by rw [← Hw1.out, ← Hq.out]; exact BoxC.new w _ _)
  have HB : Hid (Below w.heap.size w w1) := Lib.hid (by rw [← Hw1.out]; exact balloc (Below.refl _ _) _)
  rw [Hw1.out, Hq.out]
  have H1 := Lib.hid (H.out.below HB.out)
  obtain ⟨B, d, hl, hR, _⟩ := H1.out.look h1 h2
  have Hl := Lib.hid hl
  have HR := Lib.hid hR
  clear hl hR
  have k3 : ∀ y : In (Abv w1), y.u.cell? ⟨b, 3, none⟩ = some (.map ml) := fun y => (H1.out.below y.is).c3
  have q0 : ∀ y : In (Abv w1), y.u.cell? ⟨q, 0, none⟩ = some (.int .i64 p.1) := fun y => (HX.out.below y.is).cell 0 rfl
  have q1 : ∀ y : In (Abv w1), y.u.cell? ⟨q, 1, none⟩ = some (.int .i64 p.2) := fun y => (HX.out.below y.is).cell 1 rfl
  have q2 : ∀ y : In (Abv w1), y.u.cell? ⟨q, 2, none⟩ = some (.string (str s)) := fun y => (HX.out.below y.is).cell 2 rfl
  have kl : ∀ y : In (Abv w1), (Instr.lookup 39 (.map ml) (.agg #[.int .i64 p.1, .int .i64 p.2]) false).run Tryz.prog y.u = .ok (.slice B (T.list p).length d) y.u := fun y => Hl.out y.u y.is
  refine wp_region_mix (by kernel_rfl) (Cls (Abv w1)) [(0, 0), (1, 0), (2, 0), (3, 0), (4, 0), (5, 0), (6, 0), (7, 0), (8, 0), (9, 0), (10, 0), (11, 0), (12, 0), (13, 0), (14, 1), (15, 2)] (by kernel_rfl) (cls (Below.refl _ _).drew) ?_
  repeat (refine mix0 rfl (fun K hK => ?_); go_simp; refine hK _ ?_; clear hK K)
  refine mix1 rfl (fun K hK => ?_)
  go_simp
  refine (Put_any B _ d (T.list p) (s, k) _ (HR.out.below (Below.refl _ w1).drew) (by have := (Ht.out.list p).1.len; omega)).mono ?_
  rintro e w2 ⟨v, rfl, hv, hvn, hb⟩
  have B2 : Hid (Below w1.heap.size w1 w2) := Lib.hid ((Below.refl _ _).drew.trans hb)
  have HV := Lib.hid hv
  have Hvn := Lib.hid hvn
  clear hb hv hvn
  refine ⟨_, rfl, hK _ _ (cls B2.out) ?_⟩
  clear hK K
  obtain ⟨A', c', rfl⟩ := HV.out.shape
  have H2 := Lib.hid (H1.out.below B2.out)
  refine mix2 rfl (fun K hK => ?_)
  go_simp
  refine (keep_any H2.out Ht.out hn p h1 h2 A' _ c' (putN (T.list p) (s, k)) HV.out (fun g hg ho => ?_) hpl (fun e he => (Hpn.out e he).2) (by omega)).mono ?_
  · have h3 : w1.heap.size ≤ g := by have := Hvn.out g hg; simpa using this
    have hlt1 := H1.out.lt
    rcases ho with e | e | e
    · omega
    · have := H1.out.th.lt e; omega
    · obtain ⟨G, h4, _⟩ := H1.out.ls; have := h4.lt e; omega
  rintro e w3 ⟨rfl, ml', h5, t5⟩
  have H5 := Lib.hid h5
  have T5 : Hid (Turn w w3 b mt ml mt ml') := Lib.hid ((Turn.below b mt ml (bnext HB.out B2.out)).trans t5)
  clear h5 t5
  refine ⟨_, rfl, hK _ _ ?_⟩
  clear hK K
  refine mixEnd ?_
  go_wp2
  exact bodyPost_end (results_none rfl _ _ _) rfl ⟨rfl, ml', H5.out, T5.out⟩
set_option maxRecDepth 100000 in
set_option maxHeartbeats 4000000 in
theorem drop_any (h : IsT w b mt ml n T) (ht : Tok T) (hn : n < 100000000) (p : Pl) (s : List UInt8) (h1 : (Lit.int .i64 p.1).wf = true) (h2 : (Lit.int .i64 p.2).wf = true) :
    Calls Tryz.prog 56 #[.pointer (some ⟨b, 0, none⟩), spV p s] w fun e w' => e = .returned (.tuple #[]) ∧ ∃ ml', IsT w' b mt ml' (n + 1) (T.dropP p s) ∧ Turn w w' b mt ml mt ml' := by
  have H := Lib.hid h
  have Ht := Lib.hid ht
  have hdo := dropN_ok (ht.list p).1 s
  have Hdo := Lib.hid hdo
  clear h ht hdo
  go_enter Tryz.func56, Tryz.ntmps56
  go_upto_region 1 with (fail)
  obtain ⟨w1, Hw1⟩ : ∃ u, Hid (w.alloc (.cells #[.int .i64 p.1, .int .i64 p.2, .string (str s)] 96) = u) := ⟨_, Lib.hid rfl⟩
  obtain ⟨q, Hq⟩ : ∃ u, Hid (w.heap.size = u) := ⟨_, Lib.hid rfl⟩
  have HX : Hid (BoxC w1 q #[.int .i64 p.1, .int .i64 p.2, .string (str s)] 96) := Lib.hid (by rw [← Hw1.out, ← Hq.out]; exact BoxC.new w _ _)
  have HB : Hid (Below w.heap.size w w1) := Lib.hid (by rw [← Hw1.out]; exact balloc (Below.refl _ _) _)
  rw [Hw1.out, Hq.out]
  have H1 := Lib.hid (H.out.below HB.out)
  obtain ⟨B, d, hl, hR, _⟩ := H1.out.look h1 h2
  have Hl := Lib.hid hl
  have HR := Lib.hid hR
  clear hl hR
  have k3 : ∀ y : In (Abv w1), y.u.cell? ⟨b, 3, none⟩ = some (.map ml) := fun y => (H1.out.below y.is).c3
  have q0 : ∀ y : In (Abv w1), y.u.cell? ⟨q, 0, none⟩ = some (.int .i64 p.1) := fun y => (HX.out.below y.is).cell 0 rfl
  have q1 : ∀ y : In (Abv w1), y.u.cell? ⟨q, 1, none⟩ = some (.int .i64 p.2) := fun y => (HX.out.below y.is).cell 1 rfl
  have q2 : ∀ y : In (Abv w1), y.u.cell? ⟨q, 2, none⟩ = some (.string (str s)) := fun y => (HX.out.below y.is).cell 2 rfl
  have kl : ∀ y : In (Abv w1), (Instr.lookup 39 (.map ml) (.agg #[.int .i64 p.1, .int .i64 p.2]) false).run Tryz.prog y.u = .ok (.slice B (T.list p).length d) y.u := fun y => Hl.out y.u y.is
  refine wp_region_mix (by kernel_rfl) (Cls (Abv w1)) [(0, 0), (1, 0), (2, 0), (3, 0), (4, 0), (5, 0), (6, 0), (7, 0), (8, 0), (9, 1), (10, 0), (11, 0), (12, 0), (13, 0), (14, 0)] (by kernel_rfl) (cls (Below.refl _ _).drew) ?_
  repeat (refine mix0 rfl (fun K hK => ?_); go_simp; refine hK _ ?_; clear hK K)
  refine mix1 rfl (fun K hK => ?_)
  go_simp
  refine (Drop_any B _ d (T.list p) s _ (HR.out.below (Below.refl _ w1).drew) (by have := (Ht.out.list p).1.len; omega)).mono ?_
  rintro e w2 ⟨v, rfl, hv, hvn, hb⟩
  have B2 : Hid (Below w1.heap.size w1 w2) := Lib.hid ((Below.refl _ _).drew.trans hb)
  have HV := Lib.hid hv
  have Hvn := Lib.hid hvn
  clear hb hv hvn
  refine ⟨_, rfl, hK _ _ (cls B2.out) ?_⟩
  clear hK K
  repeat (refine mix0 rfl (fun K hK => ?_); go_simp; refine hK _ ?_; clear hK K)
  refine mixEnd ?_
  clear k3 q0 q1 q2 kl
  obtain ⟨A', c', rfl⟩ := HV.out.shape
  have H2 := Lib.hid (H1.out.below B2.out)
  have X2 := Lib.hid (HX.out.below B2.out)
  have q0 := X2.out.cell 0 rfl
  have q1 := X2.out.cell 1 rfl
  have q2 := X2.out.cell 2 rfl
  go_wp2_with fail
  clear q0 q1 q2
  refine (keep_any H2.out Ht.out hn p h1 h2 A' _ c' (dropN (T.list p) s) HV.out (fun g hg ho => ?_) Hdo.out.len (fun e he => (Hdo.out.name e he).2) (by have := Hdo.out.size; omega)).mono ?_
  · have h3 : w1.heap.size ≤ g := by have := Hvn.out g hg; simpa using this
    have hlt1 := H1.out.lt
    rcases ho with e | e | e
    · omega
    · have := H1.out.th.lt e; omega
    · obtain ⟨G, h4, _⟩ := H1.out.ls; have := h4.lt e; omega
  rintro e w3 ⟨rfl, ml', h5, t5⟩
  have H5 := Lib.hid h5
  have T5 : Hid (Turn w w3 b mt ml mt ml') := Lib.hid ((Turn.below b mt ml (bnext HB.out B2.out)).trans t5)
  clear h5 t5
  go_wp2
  exact bodyPost_end (results_none rfl _ _ _) rfl ⟨rfl, ml', H5.out, T5.out⟩
end
end Go.Proofs.YtiomhdanmcnaeaaGreatDoor
end

/-! What stays so of a tree; a file or a folder made. -/
section
namespace Go.Proofs.YtiomhdanmcnaeaaGreatDoor
open Go.RowKit

/-- What is so of a tree behind so many changes. -/
structure TokC (T : Tr) (c : Nat) : Prop where
  ls : ∀ p l, T.ls p = some l → ListOk l ∧ ∀ e ∈ l, 1 ≤ e.2 ∧ e.2 ≤ T.last
  th : ∀ k x, T.th k = some x → x.2.2.length ≤ 6144 ∧ 1 ≤ x.2.1 ∧ x.2.1 ≤ 1000 ∧ (x.1 = 1 ∨ x.1 = 2)
  last : 0 ≤ T.last ∧ T.last ≤ c
  free : -(100000 * (c : Int)) ≤ T.free ∧ T.free ≤ 1099511627776 + 100000 * (c : Int)
  few : c ≤ 1000000
  ne : ∀ p l, T.ls p = some l → l ≠ []
theorem TokC.tok {T : Tr} {c : Nat} (h : TokC T c) : Tok T :=
  ⟨h.ls, h.th, by have := h.last; have := h.few; omega, by have := h.free; have := h.few; omega, h.ne⟩
theorem TokC.mono {T : Tr} {c d : Nat} (h : TokC T c) (hd : c ≤ d) (hm : d ≤ 1000000) : TokC T d :=
  ⟨h.ls, h.th, by have := h.last; omega, by have := h.free; omega, hm, h.ne⟩
theorem TokC.next {T : Tr} {c : Nat} (h : TokC T c) (hc : c + 1 ≤ 1000000) : TokC { T with last := T.last + 1 } (c + 1) :=
  ⟨fun p l hp => ⟨(h.ls p l hp).1, fun e he => ⟨((h.ls p l hp).2 e he).1, by have := ((h.ls p l hp).2 e he).2; show e.2 ≤ T.last + 1; omega⟩⟩, h.th, by have := h.last; show 0 ≤ T.last + 1 ∧ T.last + 1 ≤ _; omega, by have := h.free; show _ ≤ T.free ∧ T.free ≤ _; omega, hc, h.ne⟩
theorem TokC.data {T : Tr} {c : Nat} (h : TokC T c) {k : Int} {x : Thg} (hx : T.th k = some x) : x.2.2.length ≤ 100000 := by have := (h.th k x hx).1; omega
theorem TokC.set {T : Tr} {c : Nat} (h : TokC T c) (hc : c + 1 ≤ 1000000) (k : Int) (x : Thg) (hx : x.2.1 ≠ 0 → x.2.2.length ≤ 6144 ∧ 1 ≤ x.2.1 ∧ x.2.1 ≤ 1000 ∧ (x.1 = 1 ∨ x.1 = 2)) : TokC (T.setP k x) (c + 1) := by
  have hth : ∀ i y, T.setT k x i = some y → y.2.2.length ≤ 6144 ∧ 1 ≤ y.2.1 ∧ y.2.1 ≤ 1000 ∧ (y.1 = 1 ∨ y.1 = 2) := by
    intro i y hy
    unfold Tr.setT updF at hy
    split at hy
    · split at hy
      · cases hy
      · next h0 => injection hy with hy; rw [← hy]; exact hx h0
    · exact h.th i y hy
  have u1 := used_small T k (fun y hy => h.data hy)
  have u2 := used_small ({ T with th := T.setT k x } : Tr) k (fun y hy => by have := (hth k y hy).1; omega)
  exact ⟨h.ls, hth, by have := h.last; show 0 ≤ T.last ∧ T.last ≤ _; omega, by have := h.free; show _ ≤ T.free + T.used k - ({ T with th := T.setT k x } : Tr).used k ∧ T.free + T.used k - ({ T with th := T.setT k x } : Tr).used k ≤ _; omega, hc, h.ne⟩
theorem TokC.keep {T : Tr} {c : Nat} (h : TokC T c) (hc : c + 1 ≤ 1000000) (p : Pl) (l : List Ent) (hl : ListOk l) (he : ∀ e ∈ l, 1 ≤ e.2 ∧ e.2 ≤ T.last) : TokC (T.keepP p l) (c + 1) := by
  have hls : ∀ q m, T.keepL p l q = some m → ListOk m ∧ ∀ e ∈ m, 1 ≤ e.2 ∧ e.2 ≤ T.last := by
    intro q m hm
    unfold Tr.keepL updF at hm
    split at hm
    · split at hm
      · cases hm
      · injection hm with hm; rw [← hm]; exact ⟨hl, he⟩
    · exact h.ls q m hm
  have a1 := need_small (x := ((T.size p : Nat) : Int)) (by have := (h.tok.list p).1.size; unfold Tr.size; omega)
  have a2 := need_small (x := ((sizeN l : Nat) : Int)) (by have := hl.size; omega)
  exact ⟨hls, h.th, by have := h.last; show 0 ≤ T.last ∧ T.last ≤ _; omega, by have := h.free; show _ ≤ T.free - moreI _ _ ∧ T.free - moreI _ _ ≤ _; unfold moreI; omega, hc, fun q m hm => by
    have hm' : T.keepL p l q = some m := hm
    unfold Tr.keepL updF at hm'
    split at hm'
    · split at hm'
      · cases hm'
      · next h0 => injection hm' with hm'; rw [← hm']; exact h0
    · exact h.ne q m hm'⟩
theorem TokC.put {T : Tr} {c : Nat} (h : TokC T c) (hc : c + 1 ≤ 1000000) (p : Pl) (s : List UInt8) (k : Int) (hs : 1 ≤ s.length ∧ s.length ≤ 1000) (hsz : sizeN (putN (T.list p) (s, k)) ≤ 6144) (hk : 1 ≤ k ∧ k ≤ T.last) : TokC (T.putP p s k) (c + 1) := by
  have hl := h.tok.list p
  refine h.keep hc p _ ⟨hsz, (putN_ok hl.1 (k := k) hs.2 hsz hs.1).2⟩ (fun e he => ?_)
  unfold putN at he
  split at he
  · simp only [List.mem_append, List.mem_singleton] at he
    rcases he with (he | rfl) | he
    · exact hl.2 e (List.mem_of_mem_take he)
    · exact hk
    · exact hl.2 e (List.mem_of_mem_drop he)
  · simp only [List.mem_append, List.mem_singleton] at he
    rcases he with (he | rfl) | he
    · exact hl.2 e (List.mem_of_mem_take he)
    · exact hk
    · exact hl.2 e (List.mem_of_mem_drop he)
theorem TokC.drop {T : Tr} {c : Nat} (h : TokC T c) (hc : c + 1 ≤ 1000000) (p : Pl) (s : List UInt8) : TokC (T.dropP p s) (c + 1) := by
  have hl := h.tok.list p
  exact h.keep hc p _ (dropN_ok hl.1 s) (fun e he => hl.2 e (dropN_mem he))
/-- Where nothing stands, a list has a name's bytes more. -/
theorem putN_new {l : List Ent} {s : List UInt8} {k : Int} (h : (findN l s).2 = false) : sizeN (putN l (s, k)) = sizeN l + (s.length + 6) := by
  have hn : ¬ atN l s < l.length := fun h2 => by unfold findN at h; rw [if_pos h2] at h; cases h
  unfold putN
  rw [if_neg hn, sizeN_app, sizeN_app]
  have h1 := sizeN_cut l (behN l s)
  have h2 : sizeN [(s, k)] = s.length + 6 := by simp [sizeN]
  rw [h2]
  show sizeN (l.take (behN l s)) + _ + sizeN (l.drop (behN l s)) = _
  omega
/-- A block that is none of a tree's: a tree stays where it turns. -/
theorem IsT.far {w w' : World} {b n : Nat} {mt ml : Option Nat} {T : Tr} (h : IsT w b mt ml n T) (hne : ∀ p l, T.ls p = some l → l ≠ []) {p : Nat} (m : Mod (· = p) w w') (hc : ∃ cs t z, w.heap[p]? = some (.cells cs t z)) (h2 : ∀ x, w.cell? ⟨p, 2, none⟩ ≠ some (.map x))
    (he : ∀ o x y, w.cell? ⟨p, o, none⟩ = some (.string x) → w.cell? ⟨p, o + 1, none⟩ = some (.int .i64 y) → False) : IsT w' b mt ml n T := by
  obtain ⟨cs, t, z, hp⟩ := hc
  have hb : b ≠ p := fun e => h2 mt (by rw [← e]; exact h.c2)
  have hmt : mt ≠ some p := fun e => by
    have h3 := h.th
    rw [e] at h3
    obtain ⟨es, cl, h4, _⟩ : IsMapK intD w p n _ := h3
    rw [hp] at h4; cases h4
  obtain ⟨g, h5, h6⟩ := h.ls
  have hml : ml ≠ some p := fun e => by
    rw [e] at h5
    obtain ⟨es, cl, h4, _⟩ : IsMapK plD w p n g := h5
    rw [hp] at h4; cases h4
  refine ⟨(m.cell (p := ⟨b, 0, none⟩) h.lt hb).trans h.c0, (m.cell (p := ⟨b, 1, none⟩) h.lt hb).trans h.c1, (m.cell (p := ⟨b, 2, none⟩) h.lt hb).trans h.c2, (m.cell (p := ⟨b, 3, none⟩) h.lt hb).trans h.c3,
    fun o ho => (m.frozen (p := ⟨b, o, none⟩) h.lt hb).trans (h.fr o ho), h.th.later m (fun r e e2 => hmt (by rw [e, show r = p from e2])), ⟨g, h5.later m (fun r e e2 => hml (by rw [e, show r = p from e2])), fun q => (h6 q).later m (fun u r e er e2 => ?_)⟩, h.bt, h.bl, h.tl, h.p0⟩
  have h7 := h6 q
  rw [e] at h7
  cases hl : T.ls q with
  | none => rw [hl] at h7; exact h7
  | some l =>
    rw [hl] at h7
    have hnl := hne q l hl
    obtain ⟨a, l', rfl⟩ : ∃ a l', l = a :: l' := List.exists_cons_of_ne_nil hnl
    rcases h7.1.row.is with ⟨rfl, h0⟩ | ⟨g', off, cap, rfl, hg, _, _, hcs, _⟩
    · cases er
    · simp only [blk, Option.some.injEq] at er
      subst er
      have e3 : g' = p := e2
      subst e3
      have c0 := hcs 0 (.string (str a.1)) (by simp [flat, encN])
      have c1 := hcs 1 (.int .i64 a.2) (by simp [flat, encN])
      exact he (off + 0) _ _ c0 (by rw [Nat.add_assoc]; exact c1)
/-- Blocks of a call's own that no tree has. -/
theorem IsT.box {w w' : World} {b n : Nat} {mt ml : Option Nat} {T : Tr} (h : IsT w b mt ml n T) (hne : ∀ p l, T.ls p = some l → l ≠ []) {p : Nat} (m : Mod (· = p) w w') {cs : Array Value} {t : TypeId} (hx : BoxC w p cs t) (h2 : ∀ x, cs[2]? ≠ some (.map x))
    (he : ∀ o x y, cs[o]? = some (.string x) → cs[o + 1]? = some (.int .i64 y) → False) : IsT w' b mt ml n T := by
  have hcell : ∀ o, w.cell? ⟨p, o, none⟩ = cs[o]? := fun o => by simp [World.cell?, hx.blk]
  exact h.far hne m ⟨_, _, _, hx.blk⟩ (fun x => by rw [hcell]; exact h2 x) (fun o x y h3 h4 => he o x y (by rw [← hcell]; exact h3) (by rw [← hcell]; exact h4))
/-- A call's parts. -/
structure Cal where
  op : Int
  path : List UInt8
  dst : List UInt8
  off : Int
  n : Int
  data : List UInt8
@[reducible] def askC (c : Cal) (P Q : Value) (k : Int) : Array Value := #[.int .i64 c.op, .string (str c.path), .string (str c.dst), .int .i64 c.off, .int .i64 c.n, .string (str c.data), P, Q, .int .i64 k]
@[reducible] def askV (c : Cal) (P Q : Value) (k : Int) : Value := .agg #[.int .i64 c.op, .string (str c.path), .string (str c.dst), .int .i64 c.off, .int .i64 c.n, .string (str c.data), P, Q, .int .i64 k]
@[reducible] def calV (c : Cal) : Value := .agg #[.int .i64 c.op, .string (str c.path), .string (str c.dst), .int .i64 c.off, .int .i64 c.n, .string (str c.data)]
/-- A reply's parts. -/
structure Rep where
  e : Int
  d : List UInt8
  ns : Value
  k : Int
  l : Int
  s : Int
  f : Int
@[reducible] def repV (r : Rep) : Value := .agg #[.int .i64 r.e, .string (str r.d), r.ns, .int .i64 r.k, .int .i64 r.l, .int .i64 r.s, .int .i64 r.f]
@[reducible] def repE (e : Int) : Rep := ⟨e, [], .slice none 0 0, 0, 0, 0, 0⟩
@[reducible] def rep0 : Array Value := #[.int .i64 0, .string (str []), .slice none 0 0, .int .i64 0, .int .i64 0, .int .i64 0, .int .i64 0]
/-- A reply written over a block of a call's own. -/
@[reducible] def setR (w : World) (p : Nat) (r : Rep) : World :=
  ((((((w.setCell ⟨p, 0, none⟩ (.int .i64 r.e)).setCell ⟨p, 1, none⟩ (.string (str r.d))).setCell ⟨p, 2, none⟩ r.ns).setCell ⟨p, 3, none⟩ (.int .i64 r.k)).setCell ⟨p, 4, none⟩ (.int .i64 r.l)).setCell ⟨p, 5, none⟩ (.int .i64 r.s)).setCell ⟨p, 6, none⟩ (.int .i64 r.f)
theorem setR_mod (w : World) (p : Nat) (r : Rep) : Mod (· = p) w (setR w p r) := (((((((Mod.refl _ w).set1 _).set1 _).set1 _).set1 _).set1 _).set1 _).set1 _
theorem setR_box {w : World} {p : Nat} {t : TypeId} (h : BoxC w p rep0 t) (r : Rep) : BoxC (setR w p r) p #[.int .i64 r.e, .string (str r.d), r.ns, .int .i64 r.k, .int .i64 r.l, .int .i64 r.s, .int .i64 r.f] t := by
  have h0 := BoxC.put (cs := #[.int .i64 0, .string (str []), .slice none 0 0, .int .i64 0, .int .i64 0, .int .i64 0, .int .i64 0]) h 0 (.int .i64 r.e)
  rw [show (#[.int .i64 0, .string (str []), .slice none 0 0, .int .i64 0, .int .i64 0, .int .i64 0, .int .i64 0] : Array Value).setIfInBounds 0 (.int .i64 r.e) = #[.int .i64 r.e, .string (str []), .slice none 0 0, .int .i64 0, .int .i64 0, .int .i64 0, .int .i64 0] from rfl] at h0
  have h1 := h0.put 1 (.string (str r.d))
  rw [show (#[.int .i64 r.e, .string (str []), .slice none 0 0, .int .i64 0, .int .i64 0, .int .i64 0, .int .i64 0] : Array Value).setIfInBounds 1 (.string (str r.d)) = #[.int .i64 r.e, .string (str r.d), .slice none 0 0, .int .i64 0, .int .i64 0, .int .i64 0, .int .i64 0] from rfl] at h1
  have h2 := h1.put 2 (r.ns)
  rw [show (#[.int .i64 r.e, .string (str r.d), .slice none 0 0, .int .i64 0, .int .i64 0, .int .i64 0, .int .i64 0] : Array Value).setIfInBounds 2 (r.ns) = #[.int .i64 r.e, .string (str r.d), r.ns, .int .i64 0, .int .i64 0, .int .i64 0, .int .i64 0] from rfl] at h2
  have h3 := h2.put 3 (.int .i64 r.k)
  rw [show (#[.int .i64 r.e, .string (str r.d), r.ns, .int .i64 0, .int .i64 0, .int .i64 0, .int .i64 0] : Array Value).setIfInBounds 3 (.int .i64 r.k) = #[.int .i64 r.e, .string (str r.d), r.ns, .int .i64 r.k, .int .i64 0, .int .i64 0, .int .i64 0] from rfl] at h3
  have h4 := h3.put 4 (.int .i64 r.l)
  rw [show (#[.int .i64 r.e, .string (str r.d), r.ns, .int .i64 r.k, .int .i64 0, .int .i64 0, .int .i64 0] : Array Value).setIfInBounds 4 (.int .i64 r.l) = #[.int .i64 r.e, .string (str r.d), r.ns, .int .i64 r.k, .int .i64 r.l, .int .i64 0, .int .i64 0] from rfl] at h4
  have h5 := h4.put 5 (.int .i64 r.s)
  rw [show (#[.int .i64 r.e, .string (str r.d), r.ns, .int .i64 r.k, .int .i64 r.l, .int .i64 0, .int .i64 0] : Array Value).setIfInBounds 5 (.int .i64 r.s) = #[.int .i64 r.e, .string (str r.d), r.ns, .int .i64 r.k, .int .i64 r.l, .int .i64 r.s, .int .i64 0] from rfl] at h5
  have h6 := h5.put 6 (.int .i64 r.f)
  rw [show (#[.int .i64 r.e, .string (str r.d), r.ns, .int .i64 r.k, .int .i64 r.l, .int .i64 r.s, .int .i64 0] : Array Value).setIfInBounds 6 (.int .i64 r.f) = #[.int .i64 r.e, .string (str r.d), r.ns, .int .i64 r.k, .int .i64 r.l, .int .i64 r.s, .int .i64 r.f] from rfl] at h6
  exact h6
end Go.Proofs.YtiomhdanmcnaeaaGreatDoor
end
