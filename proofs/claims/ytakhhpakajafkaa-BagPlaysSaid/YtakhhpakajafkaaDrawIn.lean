/- A statement that leaves the order of its operations open, in a round of a loop too: whichever comes up next, what is known of the slots that are done, and of the world, is kept; each operation may turn the world in its own way. No order is counted. -/
import Derived.WalkKit
import Derived.ProofKit
import Derived.Handy
import Derived.OrdersIn
import Derived.TacticsIn
import Derived.OwnWalkIn
import Derived.RangeFuncCalls
import Derived.Lib.Hide
namespace Go.Proofs.Ytakhhpakajafkaa
open Go.RowKit

/-- A fence that holds nothing off. -/
structure Free (F : Fence) (P : Program) : Prop where
  fn : ∀ f, F.fn f
  call : ∀ {n : Nat} {f : FuncId} {args : Array Value} {w : World} {R : Ending → World → Prop}, Calls P f args w R → CallsIn F n P f args w R
  depth : F.depth = none
theorem free_wide (P : Program) : Free Fence.wide P := ⟨fun _ => trivial, fun h => callsIn_wide.2 h, rfl⟩
theorem free_round (P : Program) (l : Nat) : Free (Fence.wide.inRound l) P := ⟨fun _ => trivial, fun h => CallsIn.inRound l (callsIn_wide.2 h), rfl⟩
section
variable {F : Fence} {n : Nat} {P : Program} {ops : Array Oper} {Q : Exit → Act → World → Prop} {md : Region.Mode}
theorem wpAnyIn_inv (Inv : Array Bool → Act → World → Prop)
    (hstep : ∀ L a w i, L.size = ops.size → i ∈ Region.ready md ops L → Inv L a w → wpOpIn F n P ops Q i (fun a' w' => Inv (L.setIfInBounds i true) a' w') a w)
    (hdone : ∀ L a w, L.size = ops.size → Region.ready md ops L = [] → Inv L a w → Q .normal a w) :
    ∀ (fuel : Nat) (L : Array Bool) (a : Act) (w : World), L.size = ops.size → L.toList.count false ≤ fuel → Inv L a w → wpAnyIn F n P md ops Q fuel L a w
  | 0, L, a, w, hs, hc, h => by
    have hr : Region.ready md ops L = [] := by
      rw [List.eq_nil_iff_forall_not_mem]
      intro i hi
      obtain ⟨h1, o, ho, _⟩ := mem_ready.1 hi
      have hlt : i < L.size := by rw [hs]; exact (Array.getElem?_eq_some_iff.1 ho).1
      have h2 : L[i] = false := by simpa [Array.getD, hlt] using h1
      have h3 : false ∈ L.toList := by
        rw [Array.mem_toList_iff, ← h2]
        exact Array.getElem_mem _
      have := List.count_pos_iff.2 h3
      omega
    exact ⟨hr, hdone L a w hs hr h⟩
  | fuel + 1, L, a, w, hs, hc, h => by
    refine ⟨fun hr => hdone L a w hs hr h, fun i hi => ?_⟩
    refine wpOpIn_mono (fun a' w' h' => ?_) (hstep L a w i hs hi h)
    refine wpAnyIn_inv Inv hstep hdone fuel _ a' w' (by simpa using hs) ?_ h'
    obtain ⟨h1, o, ho, _⟩ := mem_ready.1 hi
    have hlt : i < L.size := by rw [hs]; exact (Array.getElem?_eq_some_iff.1 ho).1
    have h2 : L[i] = false := by simpa [Array.getD, hlt] using h1
    have h3 : false ∈ L.toList := by
      rw [Array.mem_toList_iff, ← h2]
      exact Array.getElem_mem _
    have h4 := List.count_pos_iff.2 h3
    rw [Array.toList_setIfInBounds]
    have h5 := List.count_set (a := true) (b := false) (l := L.toList) (i := i) (by simpa using hlt)
    have h6 : (L.toList[i]'(by simpa using hlt)) = false := by simpa using h2
    rw [h5, h6]
    simp at h4 hc ⊢
    omega
/-- Each operation waits for earlier ones alone, and no two fill one slot. -/
def backB (md : Region.Mode) (ops : Array Oper) : Bool := (List.range ops.size).all fun i => ((ops[i]?).map fun o => o.after.all fun e => !Region.binds md e || decide (e.on < i)).getD true
def oneB (ops : Array Oper) : Bool := (List.range ops.size).all fun i => (List.range ops.size).all fun j => i == j || ((ops[i]?).bind (·.dst)).isNone || ((ops[i]?).bind (·.dst)) != ((ops[j]?).bind (·.dst))
theorem all_listed (hb : backB md ops = true) {L : Array Bool} (hs : L.size = ops.size) (hr : Region.ready md ops L = []) : ∀ i, i < ops.size → L.getD i false = true := by
  intro i
  induction i using Nat.strongRecOn with
  | ind i ih =>
    intro hi
    cases h : L.getD i false with
    | true => rfl
    | false =>
      have hlt : i < L.size := by omega
      have h1 : L.getD i true = false := by simpa [Array.getD, hlt] using h
      have hm : i ∈ Region.ready md ops L := by
        refine mem_ready.2 ⟨h1, ops[i], by simp [hi], fun e he hbd => ih e.on ?_ ?_⟩
        · have h2 := List.all_eq_true.1 hb i (List.mem_range.2 hi)
          simp only [Array.getElem?_eq_getElem hi, Option.map_some, Option.getD_some] at h2
          have h3 := Array.all_eq_true'.1 h2 e he
          simpa [hbd] using h3
        · have h2 := List.all_eq_true.1 hb i (List.mem_range.2 hi)
          simp only [Array.getElem?_eq_getElem hi, Option.map_some, Option.getD_some] at h2
          have h3 := Array.all_eq_true'.1 h2 e he
          have h4 : e.on < i := by simpa [hbd] using h3
          omega
      rw [hr] at hm
      cases hm
theorem slot_one (ho : oneB ops = true) {i j d : Nat} {oi oj : Oper} (hi : ops[i]? = some oi) (hj : ops[j]? = some oj) (hd : oi.dst = some d) (hjd : oj.dst = some d) : i = j := by
  have h1 : i < ops.size := (Array.getElem?_eq_some_iff.1 hi).1
  have h2 : j < ops.size := (Array.getElem?_eq_some_iff.1 hj).1
  have h3 := List.all_eq_true.1 (List.all_eq_true.1 ho i (List.mem_range.2 h1)) j (List.mem_range.2 h2)
  simpa [hi, hj, hd, hjd] using h3
/-- The slots that the operations fill. -/
def slotsOf (ops : Array Oper) : List Nat := ops.toList.filterMap (·.dst)
/-- What an operation has left in its slot. -/
def filled (o : Oper) (a : Act) : Value := match o.dst with | some d => a.tmps.getD d undef | none => undef
/-- What is known while the operations come up in whatever order: of each that is to come 'pre', of each that is done 'post'. -/
structure Drawn (ops : Array Oper) (md : Region.Mode) (S : World → Prop) (pre : Nat → World → Prop) (post : Nat → Value → World → Prop) (a0 : Act) (L : Array Bool) (a : Act) (w : World) : Prop where
  defers : a.defers = a0.defers
  size : a.tmps.size = a0.tmps.size
  off : ∀ d, d ∉ slotsOf ops → a.tmps.getD d undef = a0.tmps.getD d undef
  held : S w
  deps : ∀ i o, ops[i]? = some o → L.getD i false = true → ∀ e ∈ o.after, Region.binds md e = true → L.getD e.on false = true
  todo : ∀ i o, ops[i]? = some o → L.getD i false = false → pre i w
  done : ∀ i o, ops[i]? = some o → L.getD i false = true → post i (filled o a) w
theorem getD_put_same (a : Act) (d : Nat) (v : Value) (h : d < a.tmps.size) : (a.put (some d) v).tmps.getD d undef = v := by
  simp [Act.put, Array.getD, h]
theorem getD_put_other (a : Act) (x : Option Nat) (d : Nat) (v : Value) (h : x ≠ some d) : (a.put x v).tmps.getD d undef = a.tmps.getD d undef := by
  cases x with
  | none => rfl
  | some e =>
    have hne : e ≠ d := fun he => h (by rw [he])
    simp [Act.put, Array.getElem?_setIfInBounds_ne hne]
theorem size_put (a : Act) (x : Option Nat) (v : Value) : (a.put x v).tmps.size = a.tmps.size := by
  cases x with
  | none => rfl
  | some e => simp [Act.put]
theorem defers_put (a : Act) (x : Option Nat) (v : Value) : (a.put x v).defers = a.defers := by
  cases x <;> rfl
theorem getD_set (L : Array Bool) (i j : Nat) (h : i < L.size) : (L.setIfInBounds i true).getD j false = if i = j then true else L.getD j false := by
  by_cases e : i = j
  · subst e; simp [h]
  · simp [e, Array.getElem?_setIfInBounds_ne e]
/-- **Whatever order is picked**: of each operation, whenever it comes up, it is to be shown that it leaves what 'post' says of it, and turns the world as R says; behind all of them all is known. -/
theorem region_inv {id : Nat} {a0 : Act} {w0 : World} (hm : P.follows .mixedOrders = true)
    (S : World → Prop) (pre : Nat → World → Prop) (post : Nat → Value → World → Prop) (R : Nat → World → World → Prop) (hS0 : S w0.drew) (hp0 : ∀ i, pre i w0.drew) (hnd : oneB ops = true) (hback : backB .any ops = true) (hsl : ((slotsOf ops).all fun d => Nat.blt d a0.tmps.size) = true)
    (hpre : ∀ i j w w', i ≠ j → pre i w → R j w w' → pre i w') (hpost : ∀ i j v w w', i ≠ j → post i v w → R j w w' → post i v w')
    (hop : ∀ i o, ops[i]? = some o → ∀ a w, a.defers = a0.defers → S w → pre i w →
      (∀ d, d ∉ slotsOf ops → a.tmps.getD d undef = a0.tmps.getD d undef) →
      (∀ e ∈ o.after, Region.binds .any e = true → ∀ oj, ops[e.on]? = some oj → post e.on (filled oj a) w) →
      ∀ K : Act → World → Prop, Hid (∀ v w', S w' → R i w w' → post i (match o.dst with | some _ => v | none => undef) w' → K (a.put o.dst v) w') →
        if Region.wanted o (yielded ops a.tmps) = true then o.wpIn F n P a w K Q else (∀ f, o.about P w a.eval = some f → F.fn f) ∧ K (a.put o.dst undef) w)
    (hend : ∀ a w, a.defers = a0.defers → a.tmps.size = a0.tmps.size → S w → (∀ d, d ∉ slotsOf ops → a.tmps.getD d undef = a0.tmps.getD d undef) →
      (∀ i o, ops[i]? = some o → post i (filled o a) w) → Q .normal a w) :
    (Code.region id ops true).wpIn F n P Q a0 w0 := by
  have hlt : ∀ d ∈ slotsOf ops, d < a0.tmps.size := fun d hd => (Nat.ble_eq ▸ (List.all_eq_true.1 hsl d hd) : Nat.succ d ≤ a0.tmps.size)
  refine wpIn_region_any hm ?_
  refine wpAnyIn_inv (Drawn ops .any S pre post a0) ?_ ?_ _ _ _ _ (by simp) (by simp) ?_
  · intro L a w i hL hi hD
    obtain ⟨h1, o, ho, hdep⟩ := mem_ready.1 hi
    have hilt : i < ops.size := (Array.getElem?_eq_some_iff.1 ho).1
    have hi0 : L.getD i false = false := by
      have : i < L.size := by omega
      simpa [Array.getD, this] using h1
    unfold wpOpIn
    rw [ho]
    refine hop i o ho a w hD.defers hD.held (hD.todo i o ho hi0) hD.off (fun e he hb oj hj => hD.done e.on oj hj (hdep e he hb)) _ (Lib.hid ?_)
    intro v w' hS' hR hp
    have hfo : filled o (a.put o.dst v) = (match o.dst with | some _ => v | none => undef) := by
      unfold filled
      cases hd : o.dst with
      | none => rfl
      | some d => exact getD_put_same _ _ _ (by rw [hD.size]; exact hlt d (List.mem_filterMap.2 ⟨o, Array.mem_toList_iff.2 (Array.mem_of_getElem? ho), hd⟩))
    have hfj : ∀ j oj, ops[j]? = some oj → i ≠ j → filled oj (a.put o.dst v) = filled oj a := fun j oj hj hij => by
      unfold filled
      cases hd : oj.dst with
      | none => rfl
      | some d => exact getD_put_other _ _ _ _ fun e => hij (slot_one hnd ho hj e hd)
    refine ⟨by rw [defers_put]; exact hD.defers, by rw [size_put]; exact hD.size, fun d hd => ?_, hS', fun j oj hj hLj e he hb => ?_, fun j oj hj hLj => ?_, fun j oj hj hLj => ?_⟩
    · rw [getD_put_other _ _ _ _ (fun e => hd (List.mem_filterMap.2 ⟨o, Array.mem_toList_iff.2 (Array.mem_of_getElem? ho), e⟩))]
      exact hD.off d hd
    · rw [getD_set _ _ _ (by omega)] at hLj ⊢
      split
      · rfl
      · split at hLj
        · rename_i hij
          subst hij
          obtain rfl := Option.some.inj (ho.symm.trans hj)
          exact hdep e he hb
        · exact hD.deps j oj hj hLj e he hb
    · rw [getD_set _ _ _ (by omega)] at hLj
      split at hLj
      · cases hLj
      · rename_i hij
        exact hpre j i w w' (Ne.symm hij) (hD.todo j oj hj hLj) hR
    · rw [getD_set _ _ _ (by omega)] at hLj
      split at hLj
      · rename_i hij
        subst hij
        obtain rfl := Option.some.inj (ho.symm.trans hj)
        rw [hfo]
        exact hp
      · rename_i hij
        rw [hfj j oj hj hij]
        exact hpost j i _ _ _ (Ne.symm hij) (hD.done j oj hj hLj) hR
  · intro L a w hL hr hD
    have hL2 := all_listed hback hL hr
    exact hend a w hD.defers hD.size hD.held hD.off fun i o ho => hD.done i o ho (hL2 i (Array.getElem?_eq_some_iff.1 ho).1)
  · refine ⟨rfl, rfl, fun _ _ => rfl, hS0, fun i o ho h => ?_, fun i _ _ _ => hp0 i, fun i o ho h => ?_⟩
    · simp [Array.getD] at h
    · simp [Array.getD] at h
theorem wanted_plain {o : Oper} {y : Nat → Option Bool} (hg : o.guard = none) : Region.wanted o y = true := by
  unfold Region.wanted
  rw [hg]
/-- An operation that leaves a value. -/
theorem op_value {o : Oper} {a : Act} {w w' : World} {K : Act → World → Prop} {v : Value} {E : Prop} (hF : Free F P) (hg : o.guard = none) (hd : ∀ c, o.op ≠ .defer c) (h : (execOp a.eval o).run P w = .ok (.value v) w') (hK : K (a.put o.dst v) w') : if Region.wanted o (yielded ops a.tmps) = true then o.wpIn F n P a w K Q else E := by
  rw [if_pos (wanted_plain hg)]
  refine ⟨fun f _ => hF.fn f, ?_⟩
  rw [Oper.semAt_plain F _ _ hd, h]
  exact hK
/-- A store. -/
theorem op_skip {o : Oper} {a : Act} {w w' : World} {K : Act → World → Prop} {E : Prop} (hF : Free F P) (hg : o.guard = none) (hd : ∀ c, o.op ≠ .defer c) (h : (execOp a.eval o).run P w = .ok .skip w') (hK : K (a.put o.dst undef) w') : if Region.wanted o (yielded ops a.tmps) = true then o.wpIn F n P a w K Q else E := by
  rw [if_pos (wanted_plain hg)]
  refine ⟨fun f _ => hF.fn f, ?_⟩
  rw [Oper.semAt_plain F _ _ hd, h]
  exact hK
/-- A call. -/
theorem op_call {o : Oper} {a : Act} {w : World} {K : Act → World → Prop} {f : FuncId} {args : Array Value} {v : Value} {E : Prop} (R : World → Prop) (hF : Free F P) (hg : o.guard = none) (hd : ∀ c, o.op ≠ .defer c) (h : (execOp a.eval o).run P w = .ok (.enter f args) w)
    (hc : Calls P f args w fun e w' => e = .returned v ∧ R w') (hK : ∀ w', R w' → K (a.put o.dst v) w') : if Region.wanted o (yielded ops a.tmps) = true then o.wpIn F n P a w K Q else E := by
  rw [if_pos (wanted_plain hg)]
  refine ⟨fun f _ => hF.fn f, ?_⟩
  rw [Oper.semAt_plain F _ _ hd, h]
  refine ⟨(fun e => absurd e (by rw [hF.depth]; decide)), ?_⟩
  refine CallsIn.mono (hF.call hc) ?_
  rintro e w' ⟨rfl, hr⟩
  exact hK w' hr
/-- The operations one by one. -/
def AllOps (f : Nat → Oper → Prop) : Nat → List Oper → Prop
  | _, [] => True
  | n, o :: l => f n o ∧ AllOps f (n + 1) l
theorem allOps_at {f : Nat → Oper → Prop} : ∀ (n : Nat) (l : List Oper), AllOps f n l → ∀ i o, l[i]? = some o → f (n + i) o
  | _, [], _, i, o, h => by simp at h
  | n, x :: l, ⟨h1, h2⟩, i, o, h => by
    cases i with
    | zero =>
      simp at h
      subst h
      exact h1
    | succ i =>
      have := allOps_at (n + 1) l h2 i o (by simpa using h)
      rwa [show n + 1 + i = n + (i + 1) by omega] at this
theorem of_allOps {f : Nat → Oper → Prop} (h : AllOps f 0 ops.toList) : ∀ i o, ops[i]? = some o → f i o := fun i o ho => by
  have := allOps_at 0 ops.toList h i o (by simpa using ho)
  rwa [Nat.zero_add] at this
end
end Go.Proofs.Ytakhhpakajafkaa
