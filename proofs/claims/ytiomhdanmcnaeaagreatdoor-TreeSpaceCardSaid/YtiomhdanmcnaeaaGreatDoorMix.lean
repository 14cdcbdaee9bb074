/- A statement that leaves the order of its operations open, walked once: operations that only read are walked as soon as what they need is there; those that act (calls, stores, new memory) come in the order that their edges fix. No order is counted. -/
import Derived.WalkKit
import Derived.ProofKit
import Derived.Handy
import Derived.Below
import Derived.Deep.RegionHeld
namespace Go.Proofs.YtiomhdanmcnaeaaGreatDoor
open Go.RowKit

/-- A world that is so. -/
structure In (S : World → Prop) where
  u : World
  is : S u
/-- The class of all that are so. -/
def Cls (S : World → Prop) (u : World) : Prop := ∃ x : In S, u = x.u
theorem cls {S : World → Prop} {u : World} (h : S u) : Cls S u := ⟨⟨u, h⟩, rfl⟩
@[go_sem] theorem all_cls {S : World → Prop} {p : World → Prop} : (∀ u, Cls S u → p u) ↔ ∀ x : In S, p x.u := ⟨fun h x => h _ ⟨x, rfl⟩, fun h _ ⟨x, e⟩ => e ▸ h x⟩
/-- A region of straight code, walked by 'wp_region_mix' over the class of what lies above a world. -/
abbrev Abv (w : World) : World → Prop := fun u => Below w.heap.size w u
instance (w : World) : Nonempty (In (Abv w)) := ⟨⟨w, Below.refl _ _⟩⟩

section
variable {P : Program} {ops : Array Oper} {C : World → Prop} {Q : Exit → Act → World → Prop} {md : Region.Mode}

theorem mixAny_inv (Inv : Array Bool → Act → World → Prop)
    (hstep : ∀ L a w i, L.size = ops.size → i ∈ Region.ready md ops L → Inv L a w → wpOp P ops Q i (fun a' w' => Inv (L.setIfInBounds i true) a' w') a w)
    (hdone : ∀ L a w, L.size = ops.size → Region.ready md ops L = [] → Inv L a w → Q .normal a w) :
    ∀ (fuel : Nat) (L : Array Bool) (a : Act) (w : World), L.size = ops.size → L.toList.count false ≤ fuel → Inv L a w → wpAny P md ops Q fuel L a w
  | 0, L, a, w, hs, hc, h => by
    have hr : Region.ready md ops L = [] := by
      rw [List.eq_nil_iff_forall_not_mem]
      intro i hi
      obtain ⟨h1, o, ho, _⟩ := mem_ready.1 hi
      have hlt : i < L.size := by rw [hs]; exact (Array.getElem?_eq_some_iff.1 ho).1
      have h2 : L[i] = false := by simpa [Array.getD, hlt] using h1
      have h3 : false ∈ L.toList := by
        rw [Array.mem_toList_iff, ← h2]
        exact Array.getElem_mem _
      have := List.count_pos_iff.2 h3
      omega
    exact ⟨hr, hdone L a w hs hr h⟩
  | fuel + 1, L, a, w, hs, hc, h => by
    refine ⟨fun hr => hdone L a w hs hr h, fun i hi => ?_⟩
    refine wpOp_mono (fun a' w' h' => ?_) (hstep L a w i hs hi h)
    refine mixAny_inv Inv hstep hdone fuel _ a' w' (by simpa using hs) ?_ h'
    obtain ⟨h1, o, ho, _⟩ := mem_ready.1 hi
    have hlt : i < L.size := by rw [hs]; exact (Array.getElem?_eq_some_iff.1 ho).1
    have h2 : L[i] = false := by simpa [Array.getD, hlt] using h1
    have h3 : false ∈ L.toList := by
      rw [Array.mem_toList_iff, ← h2]
      exact Array.getElem_mem _
    have h4 := List.count_pos_iff.2 h3
    rw [Array.toList_setIfInBounds]
    have h5 := List.count_set (a := true) (b := false) (l := L.toList) (i := i) (by simpa using hlt)
    have h6 : (L.toList[i]'(by simpa using hlt)) = false := by simpa using h2
    rw [h5, h6]
    simp at h4 hc ⊢
    omega

/-- An operation that yields v in each world of the class, and leaves it alone. -/
def Yld (P : Program) (ops : Array Oper) (C : World → Prop) (o : Oper) (v : Value) (a : Act) : Prop :=
  (Region.wanted o (yielded ops a.tmps) = true ∧ ∀ u, C u → (execOp a.eval o).run P u = .ok (.value v) u) ∨ (Region.wanted o (yielded ops a.tmps) = false ∧ v = undef)
/-- What becomes of an operation's outcome. -/
def Acted (P : Program) (K : Value → World → Prop) : Result Next → Prop
  | .ok (.value v) w' => K v w'
  | .ok .skip w' => K undef w'
  | .ok (.enter f args) w' => Calls P f args w' (fun e w'' => ∃ v, e = .returned v ∧ K v w'')
  | _ => False
def ActW (P : Program) (ops : Array Oper) (o : Oper) (a : Act) (w : World) (K : Value → World → Prop) : Prop :=
  if Region.wanted o (yielded ops a.tmps) = true then Acted P K ((execOp a.eval o).run P w) else K undef w
/-- The walk: (i, 0) only reads; (i, 1) acts, and stays in the class; (i, 2) acts when all else is done. -/
def wpMix (P : Program) (ops : Array Oper) (C : World → Prop) (Q : Exit → Act → World → Prop) : List (Nat × Nat) → Act → World → Prop
  | [], a, w => Q .normal a w
  | (i, 0) :: l, a, w => ∃ o v, ops[i]? = some o ∧ Yld P ops C o v a ∧ wpMix P ops C Q l (a.put o.dst v) w
  | (i, k + 1) :: l, a, w => ∃ o, ops[i]? = some o ∧ ActW P ops o a w (fun v w' => (k = 0 → C w') ∧ wpMix P ops C Q l (a.put o.dst v) w')

theorem Yld.of_same {o : Oper} {v : Value} {a a' : Act} (hy : Yld P ops C o v a) (he : execOp a'.eval o = execOp a.eval o)
    (hw : Region.wanted o (yielded ops a'.tmps) = Region.wanted o (yielded ops a.tmps)) : Yld P ops C o v a' := by
  unfold Yld at *
  rw [he, hw]
  exact hy
theorem ActW.of_same {o : Oper} {a a' : Act} {w : World} {K : Value → World → Prop} (h : ActW P ops o a w K) (he : execOp a'.eval o = execOp a.eval o)
    (hw : Region.wanted o (yielded ops a'.tmps) = Region.wanted o (yielded ops a.tmps)) : ActW P ops o a' w K := by
  unfold ActW at *
  rw [he, hw]
  exact h
theorem Acted.mono {K K' : Value → World → Prop} (h : ∀ v w, K v w → K' v w) : ∀ {r : Result Next}, Acted P K r → Acted P K' r := by
  intro r hr
  cases r with
  | ok n w' =>
    cases n <;> simp only [Acted] at hr ⊢
    case value v => exact h _ _ hr
    case skip => exact h _ _ hr
    case enter f args => exact hr.mono fun e w'' ⟨v, he, hk⟩ => ⟨v, he, h _ _ hk⟩
  | halt x w' => simp only [Acted] at hr
theorem ActW.mono {o : Oper} {a : Act} {w : World} {K K' : Value → World → Prop} (h : ∀ v w, K v w → K' v w) (hh : ActW P ops o a w K) : ActW P ops o a w K' := by
  unfold ActW at *
  split
  · rename_i hw; rw [if_pos hw] at hh; exact hh.mono h
  · rename_i hw; rw [if_neg hw] at hh; exact h _ _ hh

def noSelB (ops : Array Oper) : Bool := ops.all fun o => match o.op with | .select _ _ => false | _ => true
theorem noSel (h : noSelB ops = true) {i : Nat} {o : Oper} (ho : ops[i]? = some o) : ∀ cs b, o.op ≠ .select cs b := by
  intro cs b e
  have h1 := Array.all_eq_true'.1 h o (Array.mem_of_getElem? ho)
  rw [e] at h1
  cases h1

theorem pull0 (hs : noSelB ops = true) {i : Nat} {o : Oper} (ho : ops[i]? = some o) (post : List (Nat × Nat)) : ∀ (pre : List (Nat × Nat)) (a : Act) (w : World),
    (∀ p ∈ pre, p.2 = 0 ∧ ∀ oj, ops[p.1]? = some oj → oj.apart ops o = true) → wpMix P ops C Q (pre ++ (i, 0) :: post) a w → ∃ v, Yld P ops C o v a ∧ wpMix P ops C Q (pre ++ post) (a.put o.dst v) w
  | [], a, w, _, h => by
    obtain ⟨o', v, ho', hy, hn⟩ := h
    obtain rfl := Option.some.inj (ho.symm.trans ho')
    exact ⟨v, hy, hn⟩
  | (j, m) :: pre, a, w, hp, h => by
    obtain ⟨rfl, hap⟩ := hp (j, m) (by simp)
    obtain ⟨oj, vj, hoj, hyj, hn⟩ := h
    obtain ⟨h1, h2, h3⟩ := Oper.apart_spec (hap oj hoj)
    obtain ⟨v, hy, hk⟩ := pull0 hs ho post pre _ w (fun p hpp => hp p (by simp [hpp])) hn
    refine ⟨v, hy.of_same (execOp_put o (noSel hs ho) a oj.dst vj h1).symm (wanted_put o a oj.dst vj h1).symm, oj, vj, hoj, hyj.of_same (execOp_put oj (noSel hs hoj) a o.dst v h3) (wanted_put oj a o.dst v h3), ?_⟩
    rw [← Act.put_comm a vj v h2]
    exact hk
theorem pull1 (hs : noSelB ops = true) {i k : Nat} {o : Oper} (ho : ops[i]? = some o) (post : List (Nat × Nat)) : ∀ (pre : List (Nat × Nat)) (a : Act) (w : World),
    (∀ p ∈ pre, p.2 = 0 ∧ ∀ oj, ops[p.1]? = some oj → oj.apart ops o = true) → wpMix P ops C Q (pre ++ (i, k + 1) :: post) a w → ActW P ops o a w (fun v w' => (k = 0 → C w') ∧ wpMix P ops C Q (pre ++ post) (a.put o.dst v) w')
  | [], a, w, _, h => by
    obtain ⟨o', ho', hn⟩ := h
    obtain rfl := Option.some.inj (ho.symm.trans ho')
    exact hn
  | (j, m) :: pre, a, w, hp, h => by
    obtain ⟨rfl, hap⟩ := hp (j, m) (by simp)
    obtain ⟨oj, vj, hoj, hyj, hn⟩ := h
    obtain ⟨h1, h2, h3⟩ := Oper.apart_spec (hap oj hoj)
    have hk := pull1 hs ho post pre _ w (fun p hpp => hp p (by simp [hpp])) hn
    refine ActW.mono ?_ (hk.of_same (execOp_put o (noSel hs ho) a oj.dst vj h1).symm (wanted_put o a oj.dst vj h1).symm)
    rintro v w' ⟨hc, hw⟩
    refine ⟨hc, oj, vj, hoj, hyj.of_same (execOp_put oj (noSel hs hoj) a o.dst v h3) (wanted_put oj a o.dst v h3), ?_⟩
    rw [← Act.put_comm a vj v h2]
    exact hw

/-- What each operation waits for, all in all, as bits. -/
def maskOf (md : Region.Mode) (acc : List Nat) (es : List Edge) : Nat := match es with
  | [] => 0
  | e :: es => if Region.binds md e = true then (1 <<< e.on ||| acc.getD e.on 0) ||| maskOf md acc es else maskOf md acc es
def masks (md : Region.Mode) : List Oper → List Nat → List Nat
  | [], acc => acc
  | o :: l, acc => masks md l (acc ++ [maskOf md acc o.after.toList])
theorem maskOf_bit {acc : List Nat} {j : Nat} : ∀ {es : List Edge}, (maskOf md acc es).testBit j = true → ∃ e ∈ es, Region.binds md e = true ∧ (e.on = j ∨ (acc.getD e.on 0).testBit j = true)
  | [], h => by simp [maskOf] at h
  | e :: es, h => by
    unfold maskOf at h
    split at h
    · rename_i hb
      rw [Nat.testBit_or, Nat.testBit_or, Bool.or_eq_true, Bool.or_eq_true] at h
      rcases h with (h | h) | h
      · refine ⟨e, by simp, hb, .inl ?_⟩
        rw [Nat.one_shiftLeft, Nat.testBit_two_pow] at h
        simpa using h
      · exact ⟨e, by simp, hb, .inr h⟩
      · obtain ⟨e', he, hb', hx⟩ := maskOf_bit h
        exact ⟨e', by simp [he], hb', hx⟩
    · obtain ⟨e', he, hb', hx⟩ := maskOf_bit h
      exact ⟨e', by simp [he], hb', hx⟩
/-- Where all that an operation waits for at once is done, all that these wait for is, too. -/
def Sound (ops : Array Oper) (md : Region.Mode) (D : Nat → Prop) (acc : List Nat) : Prop :=
  ∀ i o, ops[i]? = some o → (∀ e ∈ o.after, Region.binds md e = true → D e.on) → ∀ j, (acc.getD i 0).testBit j = true → D j
theorem masks_sound {D : Nat → Prop} (hD : ∀ i, D i → ∃ o, ops[i]? = some o ∧ ∀ e ∈ o.after, Region.binds md e = true → D e.on) :
    ∀ (l : List Oper) (acc : List Nat), (∀ k o, l[k]? = some o → ops[acc.length + k]? = some o) → Sound ops md D acc → Sound ops md D (masks md l acc)
  | [], acc, _, h => h
  | o :: l, acc, hl, h => by
    refine masks_sound hD l _ (fun k x hx => ?_) ?_
    · have := hl (k + 1) x (by simpa using hx)
      rw [List.length_append, List.length_singleton]
      rwa [show acc.length + 1 + k = acc.length + (k + 1) by omega]
    · intro i x hx hdep j hj
      rcases Nat.lt_trichotomy i acc.length with hi | hi | hi
      · rw [List.getD_eq_getElem?_getD, List.getElem?_append_left hi, ← List.getD_eq_getElem?_getD] at hj
        exact h i x hx hdep j hj
      · subst hi
        have h0 := hl 0 o (by simp)
        rw [Nat.add_zero] at h0
        obtain rfl := Option.some.inj (h0.symm.trans hx)
        rw [List.getD_eq_getElem?_getD, List.getElem?_append_right (Nat.le_refl _), Nat.sub_self] at hj
        obtain ⟨e, he, hb, hx⟩ := maskOf_bit (by simpa using hj)
        have hd := hdep e (Array.mem_toList_iff.1 he) hb
        rcases hx with rfl | hx
        · exact hd
        · obtain ⟨oe, hoe, hde⟩ := hD _ hd
          exact h e.on oe hoe hde j hx
      · rw [List.getD_eq_getElem?_getD, List.getElem?_eq_none (by simp; omega)] at hj
        simp at hj

/-- Each operation waits for earlier ones alone. -/
def backB' (md : Region.Mode) (ops : Array Oper) : Bool := (List.range ops.size).all fun i => ((ops[i]?).map fun o => o.after.all fun e => !Region.binds md e || decide (e.on < i)).getD true
theorem all_listed' (hb : backB' md ops = true) {L : Array Bool} (hs : L.size = ops.size) (hr : Region.ready md ops L = []) : ∀ i, i < ops.size → L.getD i false = true := by
  intro i
  induction i using Nat.strongRecOn with
  | ind i ih =>
    intro hi
    cases h : L.getD i false with
    | true => rfl
    | false =>
      have hlt : i < L.size := by omega
      have h1 : L.getD i true = false := by simpa [Array.getD, hlt] using h
      have hm : i ∈ Region.ready md ops L := by
        refine mem_ready.2 ⟨h1, ops[i], by simp [hi], fun e he hbd => ?_⟩
        have h2 := List.all_eq_true.1 hb i (List.mem_range.2 hi)
        simp only [Array.getElem?_eq_getElem hi, Option.map_some, Option.getD_some] at h2
        have h3 := Array.all_eq_true'.1 h2 e he
        have h4 : e.on < i := by simpa [hbd] using h3
        exact ih e.on h4 (by omega)
      rw [hr] at hm
      cases hm

def pairB (ops : Array Oper) (ms : List Nat) (p q : Nat × Nat) : Bool :=
  p.1 != q.1 && ((ms.getD q.1 0).testBit p.1 || (p.2 == 0 && q.2 != 2 && (match ops[p.1]?, ops[q.1]? with | some x, some y => x.apart ops y | _, _ => false))) && (p.2 != 2 || q.2 != 0)
def pairsB (ops : Array Oper) (ms : List Nat) : List (Nat × Nat) → Bool
  | [] => true
  | p :: l => l.all (pairB ops ms p) && pairsB ops ms l
def mixB (md : Region.Mode) (ops : Array Oper) (ord : List (Nat × Nat)) : Bool :=
  noSelB ops && backB' md ops && (List.range ops.size).all (fun i => ord.any fun p => p.1 == i) && ord.all (fun p => Nat.ble p.2 2 && Nat.blt p.1 ops.size) && pairsB ops (masks md ops.toList []) ord
theorem pairs_split {ms : List Nat} {q : Nat × Nat} {post : List (Nat × Nat)} : ∀ {pre : List (Nat × Nat)}, pairsB ops ms (pre ++ q :: post) = true → (∀ p ∈ pre, pairB ops ms p q = true) ∧ (∀ p ∈ post, pairB ops ms q p = true)
  | [], h => by
    simp only [List.nil_append, pairsB, Bool.and_eq_true, List.all_eq_true] at h
    exact ⟨fun p hp => (by cases hp), h.1⟩
  | x :: pre, h => by
    simp only [List.cons_append, pairsB, Bool.and_eq_true, List.all_eq_true] at h
    obtain ⟨h1, h2⟩ := pairs_split h.2
    refine ⟨fun p hp => ?_, h2⟩
    rcases List.mem_cons.1 hp with rfl | hp
    · exact h.1 q (by simp)
    · exact h1 p hp

def left (L : Array Bool) (ord : List (Nat × Nat)) : List (Nat × Nat) := ord.filter fun p => !L.getD p.1 false
structure Mixed (P : Program) (ops : Array Oper) (md : Region.Mode) (C : World → Prop) (Q : Exit → Act → World → Prop) (ord : List (Nat × Nat)) (L : Array Bool) (a : Act) (w : World) : Prop where
  walk : wpMix P ops C Q (left L ord) a w
  held : (∃ p ∈ left L ord, p.2 = 0) → C w
  deps : ∀ i, L.getD i false = true → ∃ o, ops[i]? = some o ∧ ∀ e ∈ o.after, Region.binds md e = true → L.getD e.on false = true

theorem getD_set' (L : Array Bool) (i j : Nat) (h : i < L.size) : (L.setIfInBounds i true).getD j false = if i = j then true else L.getD j false := by
  by_cases e : i = j
  · subst e; simp [h]
  · simp [e, Array.getElem?_setIfInBounds_ne e]
theorem left_set {L : Array Bool} {i k : Nat} {pre post : List (Nat × Nat)} (hi : i < L.size) (h1 : ∀ p ∈ pre, p.1 ≠ i) (h2 : ∀ p ∈ post, p.1 ≠ i) :
    left (L.setIfInBounds i true) (pre ++ (i, k) :: post) = left L pre ++ left L post := by
  have e : ∀ l : List (Nat × Nat), (∀ p ∈ l, p.1 ≠ i) → left (L.setIfInBounds i true) l = left L l := fun l hl => List.filter_congr fun p hp => by
    rw [getD_set' _ _ _ hi, if_neg (fun h => hl p hp h.symm)]
  unfold left at *
  rw [List.filter_append, List.filter_cons, getD_set' _ _ _ hi, if_pos rfl]
  simp only [Bool.not_true, Bool.false_eq_true, if_false]
  rw [e pre h1, e post h2]

/-- **Whatever order is picked**: the one walk serves. -/
theorem wp_region_mix {id : Nat} {a : Act} {w : World} (hm : P.follows .mixedOrders = true) (C : World → Prop) (ord : List (Nat × Nat)) (hchk : mixB .any ops ord = true) (hC : C w.drew)
    (h : wpMix P ops C Q ord a w.drew) : (Code.region id ops true).wp P Q a w := by
  simp only [mixB, Bool.and_eq_true] at hchk
  obtain ⟨⟨⟨⟨hsel, hback⟩, hall⟩, hk2⟩, hprs⟩ := hchk
  have hk2' : ∀ p ∈ ord, p.2 ≤ 2 ∧ p.1 < ops.size := fun p hp => by
    have := List.all_eq_true.1 hk2 p hp
    simp only [Bool.and_eq_true] at this
    exact ⟨Nat.le_of_ble_eq_true this.1, Nat.le_of_ble_eq_true this.2⟩
  refine wp_region_any hm ?_
  refine mixAny_inv (Mixed P ops .any C Q ord) ?_ ?_ _ _ _ _ (by simp) (by simp) ?_
  · intro L a w i hL hi hM
    obtain ⟨h1, o, ho, hdep⟩ := mem_ready.1 hi
    have hilt : i < ops.size := (Array.getElem?_eq_some_iff.1 ho).1
    have hiL : i < L.size := by omega
    have hi0 : L.getD i false = false := by simpa [Array.getD, hiL] using h1
    have hin := List.all_eq_true.1 hall i (List.mem_range.2 hilt)
    rw [List.any_eq_true] at hin
    obtain ⟨⟨i', k⟩, hmem, hii⟩ := hin
    have hii' : i' = i := by simpa using hii
    subst hii'
    obtain ⟨pre, post, hord⟩ := List.append_of_mem hmem
    have hk3 : k ≤ 2 := (hk2' _ hmem).1
    have hsp := pairs_split (hord ▸ hprs)
    have hne1 : ∀ p ∈ pre, p.1 ≠ i' := fun p hp e => by
      have := hsp.1 p hp
      simp [pairB, e] at this
    have hne2 : ∀ p ∈ post, p.1 ≠ i' := fun p hp e => by
      have := hsp.2 p hp
      simp [pairB, e] at this
    have hsound : Sound ops .any (fun j => L.getD j false = true) (masks .any ops.toList []) :=
      masks_sound hM.deps ops.toList [] (fun k o hk => by simpa using hk) (fun i o _ _ j hj => by simp at hj)
    have hq : ∀ p ∈ left L pre, p.2 = 0 ∧ k ≠ 2 ∧ ∀ oj, ops[p.1]? = some oj → oj.apart ops o = true := by
      intro p hp
      obtain ⟨hp1, hp2⟩ := List.mem_filter.1 hp
      have hb := hsp.1 p hp1
      have hnd : ((masks .any ops.toList []).getD i' 0).testBit p.1 = false := by
        cases hc : ((masks .any ops.toList []).getD i' 0).testBit p.1 with
        | false => rfl
        | true =>
          have := hsound i' o ho hdep p.1 hc
          simp only [this] at hp2
          cases hp2
      simp only [pairB, hnd, Bool.false_or, Bool.and_eq_true, beq_iff_eq, bne_iff_ne] at hb
      refine ⟨hb.1.2.1.1, hb.1.2.1.2, fun oj hoj => ?_⟩
      have := hb.1.2.2
      rw [hoj, ho] at this
      exact this
    have hleft : left L ord = left L pre ++ (i', k) :: left L post := by
      rw [hord]
      unfold left
      rw [List.filter_append, List.filter_cons, hi0]
      rfl
    have hset : left (L.setIfInBounds i' true) ord = left L pre ++ left L post := by
      rw [hord]; exact left_set hiL hne1 hne2
    have hdeps : ∀ j, (L.setIfInBounds i' true).getD j false = true → ∃ oj, ops[j]? = some oj ∧ ∀ e ∈ oj.after, Region.binds .any e = true → (L.setIfInBounds i' true).getD e.on false = true := by
      intro j hj
      rw [getD_set' _ _ _ hiL] at hj
      split at hj
      · rename_i e
        subst e
        exact ⟨o, ho, fun e he hb => by rw [getD_set' _ _ _ hiL, hdep e he hb]; split <;> rfl⟩
      · obtain ⟨oj, hoj, hd⟩ := hM.deps j hj
        exact ⟨oj, hoj, fun e he hb => by rw [getD_set' _ _ _ hiL, hd e he hb]; split <;> rfl⟩
    have hW := hM.walk
    rw [hleft] at hW
    unfold wpOp
    simp only [ho]
    match k, hk3 with
    | 0, _ =>
      obtain ⟨v, hy, hn⟩ := pull0 hsel ho (left L post) (left L pre) a w (fun p hp => ⟨(hq p hp).1, (hq p hp).2.2⟩) hW
      have hCw : C w := hM.held ⟨(i', 0), by rw [hleft]; simp, rfl⟩
      have fin : Mixed P ops .any C Q ord (L.setIfInBounds i' true) (a.put o.dst v) w := ⟨by rw [hset]; exact hn, fun _ => hCw, hdeps⟩
      rcases hy with ⟨hw, hrun⟩ | ⟨hw, rfl⟩
      · rw [if_pos hw]
        refine .inl ?_
        unfold Oper.wp
        rw [hrun w hCw]
        exact fin
      · rw [if_neg (by rw [hw]; simp)]
        exact fin
    | k + 1, hk3 =>
      have hA := pull1 hsel ho (left L post) (left L pre) a w (fun p hp => ⟨(hq p hp).1, (hq p hp).2.2⟩) hW
      have fin : ∀ v w', ((k = 0 → C w') ∧ wpMix P ops C Q (left L pre ++ left L post) (a.put o.dst v) w') → Mixed P ops .any C Q ord (L.setIfInBounds i' true) (a.put o.dst v) w' := by
        rintro v w' ⟨hc, hn⟩
        refine ⟨by rw [hset]; exact hn, fun ⟨p, hp, hp0⟩ => ?_, hdeps⟩
        rw [hset] at hp
        rcases Nat.eq_zero_or_pos k with h0 | h0
        · exact hc h0
        · have hk1 : k = 1 := by omega
          subst hk1
          rcases List.mem_append.1 hp with hp | hp
          · exact absurd rfl (hq p hp).2.1
          · have hb := hsp.2 p (List.mem_filter.1 hp).1
            simp [pairB, hp0] at hb
      unfold ActW at hA
      split at hA
      · rename_i hw
        rw [if_pos hw]
        refine .inl ?_
        unfold Oper.wp
        generalize (execOp a.eval o).run P w = r at hA
        cases r with
        | ok n w' =>
          cases n <;> simp only [Acted] at hA <;> simp only [Oper.upon]
          case value v => exact fin v w' hA
          case skip => exact fin undef w' hA
          case enter f args =>
            refine hA.mono ?_
            rintro e w'' ⟨v, rfl, hk⟩
            exact fin v w'' hk
        | halt x w' => simp only [Acted] at hA
      · rename_i hw
        rw [if_neg hw]
        exact fin undef w hA
  · intro L a w hL hr hM
    have hdone := all_listed' hback hL hr
    have hnil : left L ord = [] := by
      rw [List.eq_nil_iff_forall_not_mem]
      intro p hp
      obtain ⟨hp1, hp2⟩ := List.mem_filter.1 hp
      rw [hdone p.1 (hk2' p hp1).2] at hp2
      cases hp2
    have hW := hM.walk
    rw [hnil] at hW
    exact hW
  · have hall' : left (Array.replicate ops.size false) ord = ord := List.filter_eq_self.2 fun p hp => by
      simp [Array.getD, (hk2' p hp).2]
    refine ⟨by rw [hall']; exact h, fun _ => hC, fun i hi => ?_⟩
    simp [Array.getD] at hi
/-- One operation at a time, what follows behind a variable. -/
theorem mix0 {i : Nat} {l : List (Nat × Nat)} {a : Act} {w : World} {o : Oper} (ho : ops[i]? = some o)
    (h : ∀ K : Act → Prop, (∀ a, wpMix P ops C Q l a w → K a) → if Region.wanted o (yielded ops a.tmps) = true then (∃ v, (∀ u, C u → (execOp a.eval o).run P u = .ok (.value v) u) ∧ K (a.put o.dst v)) else K (a.put o.dst undef)) : wpMix P ops C Q ((i, 0) :: l) a w := by
  have h1 := h (fun a => wpMix P ops C Q l a w) (fun _ h => h)
  split at h1
  · rename_i hw
    obtain ⟨v, hv, hn⟩ := h1
    exact ⟨o, v, ho, .inl ⟨hw, hv⟩, hn⟩
  · rename_i hw
    exact ⟨o, undef, ho, .inr ⟨by simpa using hw, rfl⟩, h1⟩
theorem mix1 {i : Nat} {l : List (Nat × Nat)} {a : Act} {w : World} {o : Oper} (ho : ops[i]? = some o)
    (h : ∀ K : Act → World → Prop, (∀ a w, C w → wpMix P ops C Q l a w → K a w) → if Region.wanted o (yielded ops a.tmps) = true then Acted P (fun v w' => K (a.put o.dst v) w') ((execOp a.eval o).run P w) else K (a.put o.dst undef) w) : wpMix P ops C Q ((i, 1) :: l) a w := by
  have h1 := h (fun a w => C w ∧ wpMix P ops C Q l a w) (fun _ _ hc h => ⟨hc, h⟩)
  refine ⟨o, ho, ?_⟩
  unfold ActW
  split
  · rename_i hw
    rw [if_pos hw] at h1
    exact h1.mono fun v w' ⟨a, b⟩ => ⟨fun _ => a, b⟩
  · rename_i hw
    rw [if_neg hw] at h1
    exact ⟨fun _ => h1.1, h1.2⟩
theorem mix2 {i : Nat} {l : List (Nat × Nat)} {a : Act} {w : World} {o : Oper} (ho : ops[i]? = some o)
    (h : ∀ K : Act → World → Prop, (∀ a w, wpMix P ops C Q l a w → K a w) → if Region.wanted o (yielded ops a.tmps) = true then Acted P (fun v w' => K (a.put o.dst v) w') ((execOp a.eval o).run P w) else K (a.put o.dst undef) w) : wpMix P ops C Q ((i, 2) :: l) a w := by
  have h1 := h (fun a w => wpMix P ops C Q l a w) (fun _ _ h => h)
  refine ⟨o, ho, ?_⟩
  unfold ActW
  split
  · rename_i hw
    rw [if_pos hw] at h1
    exact h1.mono fun v w' b => ⟨fun h => (by cases h), b⟩
  · rename_i hw
    rw [if_neg hw] at h1
    exact ⟨fun h => (by cases h), h1⟩
theorem mixEnd {a : Act} {w : World} (h : Q .normal a w) : wpMix P ops C Q [] a w := h
@[go_sem] theorem acted_value (K : Value → World → Prop) (v : Value) (w : World) : Acted P K (.ok (.value v) w) = K v w := rfl
@[go_sem] theorem acted_skip (K : Value → World → Prop) (w : World) : Acted P K (.ok .skip w) = K undef w := rfl
@[go_sem] theorem acted_enter (K : Value → World → Prop) (f : FuncId) (args : Array Value) (w : World) : Acted P K (.ok (.enter f args) w) = Calls P f args w (fun e w'' => ∃ v, e = .returned v ∧ K v w'') := rfl
end
end Go.Proofs.YtiomhdanmcnaeaaGreatDoor
