/- A statement that leaves the order of its operations open: whichever comes up next, what is known of the slots that are done, and of the world, is kept. No order is counted. -/
import Derived.WalkKit
import Derived.ProofKit
import Derived.Handy
import Derived.Deep.RegionHeld
namespace Go.Proofs.YtbniahmnjljgmaaDoor
open Go.RowKit

section
variable {P : Program} {ops : Array Oper} {Q : Exit → Act → World → Prop} {md : Region.Mode}

theorem wpAny_inv (Inv : Array Bool → Act → World → Prop)
    (hstep : ∀ L a w i, L.size = ops.size → i ∈ Region.ready md ops L → Inv L a w → wpOp P ops Q i (fun a' w' => Inv (L.setIfInBounds i true) a' w') a w)
    (hdone : ∀ L a w, L.size = ops.size → Region.ready md ops L = [] → Inv L a w → Q .normal a w) :
    ∀ (fuel : Nat) (L : Array Bool) (a : Act) (w : World), L.size = ops.size → L.toList.count false ≤ fuel → Inv L a w → wpAny P md ops Q fuel L a w
  | 0, L, a, w, hs, hc, h => by
    have hr : Region.ready md ops L = [] := by
      rw [List.eq_nil_iff_forall_not_mem]
      intro i hi
      obtain ⟨h1, o, ho, _⟩ := mem_ready.1 hi
      have hlt : i < L.size := by rw [hs]; exact (Array.getElem?_eq_some_iff.1 ho).1
      have h2 : L[i] = false := by simpa [Array.getD, hlt] using h1
      have h3 : false ∈ L.toList := by
        rw [Array.mem_toList_iff, ← h2]
        exact Array.getElem_mem _
      have := List.count_pos_iff.2 h3
      omega
    exact ⟨hr, hdone L a w hs hr h⟩
  | fuel + 1, L, a, w, hs, hc, h => by
    refine ⟨fun hr => hdone L a w hs hr h, fun i hi => ?_⟩
    refine wpOp_mono (fun a' w' h' => ?_) (hstep L a w i hs hi h)
    refine wpAny_inv Inv hstep hdone fuel _ a' w' (by simpa using hs) ?_ h'
    obtain ⟨h1, o, ho, _⟩ := mem_ready.1 hi
    have hlt : i < L.size := by rw [hs]; exact (Array.getElem?_eq_some_iff.1 ho).1
    have h2 : L[i] = false := by simpa [Array.getD, hlt] using h1
    have h3 : false ∈ L.toList := by
      rw [Array.mem_toList_iff, ← h2]
      exact Array.getElem_mem _
    have h4 := List.count_pos_iff.2 h3
    rw [Array.toList_setIfInBounds]
    have h5 := List.count_set (a := true) (b := false) (l := L.toList) (i := i) (by simpa using hlt)
    have h6 : (L.toList[i]'(by simpa using hlt)) = false := by simpa using h2
    rw [h5, h6]
    simp at h4 hc ⊢
    omega

/-- Each operation waits for earlier ones alone, and no two fill one slot. -/
def backB (md : Region.Mode) (ops : Array Oper) : Bool := (List.range ops.size).all fun i => ((ops[i]?).map fun o => o.after.all fun e => !Region.binds md e || decide (e.on < i)).getD true
def oneB (ops : Array Oper) : Bool := (List.range ops.size).all fun i => (List.range ops.size).all fun j => i == j || ((ops[i]?).bind (·.dst)).isNone || ((ops[i]?).bind (·.dst)) != ((ops[j]?).bind (·.dst))
theorem all_listed (hb : backB md ops = true) {L : Array Bool} (hs : L.size = ops.size) (hr : Region.ready md ops L = []) : ∀ i, i < ops.size → L.getD i false = true := by
  intro i
  induction i using Nat.strongRecOn with
  | ind i ih =>
    intro hi
    cases h : L.getD i false with
    | true => rfl
    | false =>
      have hlt : i < L.size := by omega
      have h1 : L.getD i true = false := by simpa [Array.getD, hlt] using h
      have hm : i ∈ Region.ready md ops L := by
        refine mem_ready.2 ⟨h1, ops[i], by simp [hi], fun e he hbd => ih e.on ?_ ?_⟩
        · have h2 := List.all_eq_true.1 hb i (List.mem_range.2 hi)
          simp only [Array.getElem?_eq_getElem hi, Option.map_some, Option.getD_some] at h2
          have h3 := Array.all_eq_true'.1 h2 e he
          simpa [hbd] using h3
        · have h2 := List.all_eq_true.1 hb i (List.mem_range.2 hi)
          simp only [Array.getElem?_eq_getElem hi, Option.map_some, Option.getD_some] at h2
          have h3 := Array.all_eq_true'.1 h2 e he
          have h4 : e.on < i := by simpa [hbd] using h3
          omega
      rw [hr] at hm
      cases hm
theorem slot_one (ho : oneB ops = true) {i j d : Nat} {oi oj : Oper} (hi : ops[i]? = some oi) (hj : ops[j]? = some oj) (hd : oi.dst = some d) (hjd : oj.dst = some d) : i = j := by
  have h1 : i < ops.size := (Array.getElem?_eq_some_iff.1 hi).1
  have h2 : j < ops.size := (Array.getElem?_eq_some_iff.1 hj).1
  have h3 := List.all_eq_true.1 (List.all_eq_true.1 ho i (List.mem_range.2 h1)) j (List.mem_range.2 h2)
  simpa [hi, hj, hd, hjd] using h3
/-- The slots that the operations fill. -/
def slotsOf (ops : Array Oper) : List Nat := ops.toList.filterMap (·.dst)
/-- A slot that none of the operations fills, or whose operation is not done, is as it was. -/
structure Kept (ops : Array Oper) (a0 : Act) (L : Array Bool) (a : Act) : Prop where
  defers : a.defers = a0.defers
  size : a.tmps.size = a0.tmps.size
  off : ∀ d, d ∉ slotsOf ops → a.tmps.getD d undef = a0.tmps.getD d undef
  still : ∀ i o d, ops[i]? = some o → o.dst = some d → L.getD i false = false → a.tmps.getD d undef = a0.tmps.getD d undef
/-- What is known while the operations come up in whatever order. -/
structure Drawn (ops : Array Oper) (md : Region.Mode) (S : World → Prop) (post : Nat → Value → World → Prop) (a0 : Act) (L : Array Bool) (a : Act) (w : World) : Prop where
  kept : Kept ops a0 L a
  held : S w
  deps : ∀ i o, ops[i]? = some o → L.getD i false = true → ∀ e ∈ o.after, Region.binds md e = true → L.getD e.on false = true
  done : ∀ i o d, ops[i]? = some o → o.dst = some d → L.getD i false = true → post i (a.tmps.getD d undef) w

theorem getD_put_same (a : Act) (d : Nat) (v : Value) (h : d < a.tmps.size) : (a.put (some d) v).tmps.getD d undef = v := by
  simp [Act.put, Array.getD, h]
theorem getD_put_other (a : Act) (x : Option Nat) (d : Nat) (v : Value) (h : x ≠ some d) : (a.put x v).tmps.getD d undef = a.tmps.getD d undef := by
  cases x with
  | none => rfl
  | some e =>
    have hne : e ≠ d := fun he => h (by rw [he])
    simp [Act.put, Array.getElem?_setIfInBounds_ne hne]
theorem size_put (a : Act) (x : Option Nat) (v : Value) : (a.put x v).tmps.size = a.tmps.size := by
  cases x with
  | none => rfl
  | some e => simp [Act.put]
theorem defers_put (a : Act) (x : Option Nat) (v : Value) : (a.put x v).defers = a.defers := by
  cases x <;> rfl
theorem getD_set (L : Array Bool) (i j : Nat) (h : i < L.size) : (L.setIfInBounds i true).getD j false = if i = j then true else L.getD j false := by
  by_cases e : i = j
  · subst e; simp [h]
  · simp [e, Array.getElem?_setIfInBounds_ne e]

/-- **Whatever order is picked**: of each operation, whenever it comes up, it is to be shown that it leaves what 'post' says of it; behind all of them all is known. -/
theorem wp_region_inv {id : Nat} {a0 : Act} {w0 : World} (hm : P.follows .mixedOrders = true)
    (S : World → Prop) (post : Nat → Value → World → Prop) (hS0 : S w0.drew) (hnd : oneB ops = true) (hback : backB .any ops = true) (hsl : ((slotsOf ops).all fun d => Nat.blt d a0.tmps.size) = true)
    (hpost : ∀ i v w w', post i v w → Below w.heap.size w w' → post i v w')
    (hop : ∀ i o, ops[i]? = some o → ∀ a w, a.defers = a0.defers → S w →
      (∀ d, (d ∉ slotsOf ops ∨ ∃ (j : Nat) (oj : Oper), ops[j]? = some oj ∧ oj.dst = some d ∧ ∃ e ∈ oj.after, e.on = i ∧ Region.binds .any e = true) → a.tmps.getD d undef = a0.tmps.getD d undef) →
      (∀ e ∈ o.after, Region.binds .any e = true → ∀ oj d, ops[e.on]? = some oj → oj.dst = some d → post e.on (a.tmps.getD d undef) w) →
      ∀ K : Act → World → Prop, Shut (∀ v w', S w' → Below w.heap.size w w' → post i v w' → K (a.put o.dst v) w') →
        if Region.wanted o (yielded ops a.tmps) = true then Oper.wp P o a w K Q else K (a.put o.dst undef) w)
    (hend : ∀ a w, a.defers = a0.defers → a.tmps.size = a0.tmps.size → S w → (∀ d, d ∉ slotsOf ops → a.tmps.getD d undef = a0.tmps.getD d undef) →
      (∀ i o d, ops[i]? = some o → o.dst = some d → post i (a.tmps.getD d undef) w) → Q .normal a w) :
    (Code.region id ops true).wp P Q a0 w0 := by
  have hlt : ∀ d ∈ slotsOf ops, d < a0.tmps.size := fun d hd => (Nat.ble_eq ▸ (List.all_eq_true.1 hsl d hd) : Nat.succ d ≤ a0.tmps.size)
  refine wp_region_any hm ?_
  refine wpAny_inv (Drawn ops .any S post a0) ?_ ?_ _ _ _ _ (by simp) (by simp) ?_
  · intro L a w i hL hi hD
    obtain ⟨h1, o, ho, hdep⟩ := mem_ready.1 hi
    have hilt : i < ops.size := (Array.getElem?_eq_some_iff.1 ho).1
    have hi0 : L.getD i false = false := by
      have : i < L.size := by omega
      simpa [Array.getD, this] using h1
    refine wpOp_step ho (fun K hK => ?_)
    refine hop i o ho a w hD.kept.defers hD.held ?_ ?_ K ?_
    · rintro d (hd | ⟨j, oj, hj, hjd, e, he, rfl, hb⟩)
      · exact hD.kept.off d hd
      · refine hD.kept.still j oj d hj hjd ?_
        cases hLj : L.getD j false with
        | false => rfl
        | true =>
          have := hD.deps j oj hj hLj e he hb
          rw [hi0] at this
          cases this
    · intro e he hb oj d hj hd
      exact hD.done e.on oj d hj hd (hdep e he hb)
    · intro v w' hS' hB hp
      refine hK _ _ ⟨⟨?_, ?_, ?_, ?_⟩, hS', ?_, ?_⟩
      · rw [defers_put]; exact hD.kept.defers
      · rw [size_put]; exact hD.kept.size
      · intro d hd
        rw [getD_put_other _ _ _ _ (fun e => hd (List.mem_filterMap.2 ⟨o, Array.mem_toList_iff.2 (Array.mem_of_getElem? ho), e⟩))]
        exact hD.kept.off d hd
      · intro j oj d hj hjd hLj
        rw [getD_set _ _ _ (by omega)] at hLj
        split at hLj
        · cases hLj
        · rename_i hij
          rw [getD_put_other _ _ _ _ (fun e => ?_)]
          · exact hD.kept.still j oj d hj hjd hLj
          · exact hij (slot_one hnd ho hj e hjd)
      · intro j oj hj hLj e he hb
        rw [getD_set _ _ _ (by omega)] at hLj ⊢
        split
        · rfl
        · split at hLj
          · rename_i hij
            subst hij
            obtain rfl := Option.some.inj (ho.symm.trans hj)
            exact hdep e he hb
          · exact hD.deps j oj hj hLj e he hb
      · intro j oj d hj hjd hLj
        rw [getD_set _ _ _ (by omega)] at hLj
        split at hLj
        · rename_i hij
          subst hij
          obtain rfl := Option.some.inj (ho.symm.trans hj)
          rw [hjd, getD_put_same _ _ _ (by rw [hD.kept.size]; exact hlt d (List.mem_filterMap.2 ⟨o, Array.mem_toList_iff.2 (Array.mem_of_getElem? ho), hjd⟩))]
          exact hp
        · rename_i hij
          rw [getD_put_other _ _ _ _ (fun e => hij (slot_one hnd ho hj e hjd))]
          exact hpost j _ _ _ (hD.done j oj d hj hjd hLj) hB
  · intro L a w hL hr hD
    have hL2 := all_listed hback hL hr
    exact hend a w hD.kept.defers hD.kept.size hD.held hD.kept.off fun i o d ho hd => hD.done i o d ho hd (hL2 i (Array.getElem?_eq_some_iff.1 ho).1)
  · refine ⟨⟨rfl, rfl, fun _ _ => rfl, fun _ _ _ _ _ _ => rfl⟩, hS0, ?_, ?_⟩
    · intro i o ho h
      simp [Array.getD] at h
    · intro i o d ho hd h
      simp [Array.getD] at h
theorem wanted_yes {o : Oper} {a : Act} {j d : Nat} {b : Bool} (hg : o.guard = some (j, b)) (hj : (ops[j]?).bind (·.dst) = some d) (h : a.tmps.getD d undef = .bool b) : Region.wanted o (yielded ops a.tmps) = true := by
  have hlt : d < a.tmps.size := by
    rcases Nat.lt_or_ge d a.tmps.size with h' | h'
    · exact h'
    · rw [Array.getD, dif_neg (by omega)] at h
      cases h
  have h2 : a.tmps[d]? = some (.bool b) := by
    have : a.tmps[d] = .bool b := by simpa [Array.getD, hlt] using h
    simp [hlt, this]
  unfold Region.wanted
  rw [hg]
  have h3 : yielded ops a.tmps j = some b := by
    unfold yielded
    rw [hj]
    show (match a.tmps[d]? with | some (.bool b) => some b | _ => none) = some b
    rw [h2]
  simp [h3]
theorem wanted_plain {o : Oper} {y : Nat → Option Bool} (hg : o.guard = none) : Region.wanted o y = true := by
  unfold Region.wanted
  rw [hg]
/-- An operation that comes up where its guard holds. -/
theorem op_yes {o : Oper} {a : Act} {w : World} {K : Act → World → Prop} {c : Bool} (hw : c = true) (h : Oper.wp P o a w K Q) : if c = true then Oper.wp P o a w K Q else K (a.put o.dst undef) w := by
  rw [if_pos hw]
  exact h
theorem op_value {o : Oper} {a : Act} {w w' : World} {K : Act → World → Prop} {v : Value} (h : (execOp a.eval o).run P w = .ok (.value v) w') (hK : K (a.put o.dst v) w') : Oper.wp P o a w K Q := by
  unfold Oper.wp
  rw [h]
  exact hK
theorem op_call {o : Oper} {a : Act} {w : World} {K : Act → World → Prop} {f : FuncId} {args : Array Value} {v : Value} (R : World → Prop) (h : (execOp a.eval o).run P w = .ok (.enter f args) w)
    (hc : Calls P f args w fun e w' => e = .returned v ∧ R w') (hK : ∀ w', R w' → K (a.put o.dst v) w') : Oper.wp P o a w K Q := by
  unfold Oper.wp
  rw [h]
  refine Calls.mono hc ?_
  rintro e w' ⟨rfl, hr⟩
  exact hK w' hr
/-- The operations one by one. -/
def AllOps (f : Nat → Oper → Prop) : Nat → List Oper → Prop
  | _, [] => True
  | n, o :: l => f n o ∧ AllOps f (n + 1) l
theorem allOps_at {f : Nat → Oper → Prop} : ∀ (n : Nat) (l : List Oper), AllOps f n l → ∀ i o, l[i]? = some o → f (n + i) o
  | _, [], _, i, o, h => by simp at h
  | n, x :: l, ⟨h1, h2⟩, i, o, h => by
    cases i with
    | zero =>
      simp at h
      subst h
      exact h1
    | succ i =>
      have := allOps_at (n + 1) l h2 i o (by simpa using h)
      rwa [show n + 1 + i = n + (i + 1) by omega] at this
theorem of_allOps {f : Nat → Oper → Prop} (h : AllOps f 0 ops.toList) : ∀ i o, ops[i]? = some o → f i o := fun i o ho => by
  have := allOps_at 0 ops.toList h i o (by simpa using ho)
  rwa [Nat.zero_add] at this
end
end Go.Proofs.YtbniahmnjljgmaaDoor
