/- The document's lists are the program's: the plain part. -/
import Derived.Test.YtnbhjehaecifcaaPt06
namespace Go.Proofs.Ytnbhjehaecifcaa
open Go.RowKit

theorem less_fst (a x : Mb) : (lessM a x).1 = lst a.1 x := by
  unfold lessM lst
  by_cases h : ordI x a < 0
  · rw [if_pos h]
    have := (ord_lt x a).1 h
    unfold ltP at this
    split
    · rfl
    · omega
  · rw [if_neg h]
    have h2 : ¬ ltP x a := fun k => h ((ord_lt x a).2 k)
    unfold ltP at h2
    rw [if_neg (by omega)]
theorem fold_fst : ∀ (t : List Mb) (a : Mb), (t.foldl lessM a).1 = t.foldl lst a.1
  | [], _ => rfl
  | x :: t, a => by
    show (t.foldl lessM (lessM a x)).1 = t.foldl lst (lst a.1 x)
    rw [fold_fst t, less_fst]
/-- The least node, either way. -/
theorem chief_eq (V : Vw) : chiefI V = lstTo V.mem := by
  unfold chiefI
  cases h : V.mem with
  | nil => rfl
  | cons a t =>
    rw [if_neg (by simp)]
    exact fold_fst t a
theorem findIdx_congr {l : List Mb} {p q : Mb → Bool} (h : ∀ x ∈ l, p x = q x) : l.findIdx p = l.findIdx q := by
  induction l with
  | nil => rfl
  | cons a t ih =>
    rw [List.findIdx_cons, List.findIdx_cons, h a (by simp), ih (fun x hx => h x (by simp [hx]))]
/-- Where one is put. -/
theorem at_eq {l : List Mb} {m : Mb} (h : ∀ x ∈ l, x.1 = m.1 → x.2.1 < m.2.1) : atR l m = l.findIdx (pBehind m.1) := by
  refine findIdx_congr fun x hx => ?_
  have := h x hx
  unfold pLt pBehind
  by_cases h1 : x.1 < m.1
  · have h2 : ¬ m.1 < x.1 := by omega
    simp [h1, h2]
  · by_cases h3 : x.1 = m.1
    · have h4 := this h3
      have h2 : ¬ m.1 < x.1 := by omega
      simp [h3, h4]
    · have h2 : m.1 < x.1 := by omega
      simp [h1, h3, h2]
theorem put_eq {l : List Mb} {m : Mb} (h : ∀ x ∈ l, x.1 = m.1 → x.2.1 < m.2.1) : putR l m = ins l (l.findIdx (pBehind m.1)) m := by
  unfold putR ins
  rw [at_eq h]
/-- Without the only one that is so. -/
theorem filter_one {p : Mb → Bool} : ∀ {l : List Mb}, l.Pairwise (fun a b => p a = true → p b = false) → l.filter (fun x => !p x) = l.take (l.findIdx p) ++ l.drop (l.findIdx p + 1)
  | [], _ => rfl
  | a :: t, h => by
    obtain ⟨h1, h2⟩ := List.pairwise_cons.1 h
    cases ha : p a with
    | true =>
      rw [List.filter_cons, List.findIdx_cons, ha]
      simp only [Bool.not_true, Bool.false_eq_true, if_false, cond_true, List.take_zero, List.nil_append, Nat.zero_add, List.drop_succ_cons, List.drop_zero]
      exact List.filter_eq_self.2 fun x hx => by rw [h1 x hx ha]; rfl
    | false =>
      rw [List.filter_cons, List.findIdx_cons, ha]
      simp only [Bool.not_false, if_true, cond_false, List.take_succ_cons, List.drop_succ_cons, List.cons_append]
      rw [filter_one h2]
theorem filter_none {p : Mb → Bool} {l : List Mb} (h : ∀ x ∈ l, p x = false) : l.filter (fun x => !p x) = l := List.filter_eq_self.2 fun x hx => by rw [h x hx]; rfl
theorem wo_of (node : Int) : (pWo node 0) = fun x => !pOf node x := by
  funext x
  simp [pWo, pOf, bne]
theorem wo_is {node inc : Int} (h : inc ≠ 0) : (pWo node inc) = fun x => !pIs node inc x := by
  funext x
  have h' : (inc == 0) = false := beq_no h
  simp only [pWo, pIs, h', bne, Bool.not_and, Bool.not_false, Bool.true_and]
/-- Without a node, of members that may be. -/
theorem without_mem {V : Vw} (h : Ok V) (node : Int) : V.mem.filter (pWo node 0) = V.mem.take (V.mem.findIdx (pOf node)) ++ V.mem.drop (V.mem.findIdx (pOf node) + 1) := by
  rw [wo_of]
  refine filter_one (h.mp.imp fun {a b} hab ha => ?_)
  simp only [pOf, beq_iff_eq] at ha
  simp only [pOf, beq_eq_false_iff_ne]
  omega
/-- Without one, of dead ones that may be. -/
theorem without_dead {V : Vw} (h : Ok V) {node inc : Int} (hi : inc ≠ 0) : V.dead.filter (pWo node inc) = V.dead.take (V.dead.findIdx (pIs node inc)) ++ V.dead.drop (V.dead.findIdx (pIs node inc) + 1) := by
  rw [wo_is hi]
  refine filter_one (h.dp.imp fun {a b} hab ha => ?_)
  simp only [pIs, Bool.and_eq_true, beq_iff_eq] at ha
  cases hb : pIs node inc b with
  | false => rfl
  | true =>
    simp only [pIs, Bool.and_eq_true, beq_iff_eq] at hb
    unfold ltP at hab
    omega
/-- The document's Join. -/
def joinD (V : Vw) (node : Int) : Vw :=
  if joinOk V node then
    { nodes := V.nodes, epoch := V.epoch + 1, mem := putR ((V.mem.filter (pWo node 0)).map unr) (node, incAt V node + 1, false),
      dead := if incOf V node > 0 then putR V.dead (node, incOf V node, false) else V.dead, incs := V.incs.set node.toNat (incAt V node + 1) }
  else V
theorem incOf_some {V : Vw} (h : Ok V) {node : Int} {m : Mb} (hm : V.mem[V.mem.findIdx (pOf node)]? = some m) : incOf V node = m.2.1 ∧ 0 < m.2.1 := by
  have := h.mm m (List.mem_of_getElem? hm)
  exact ⟨by unfold incOf; rw [hm], by omega⟩
theorem incOf_none {V : Vw} {node : Int} (hm : V.mem[V.mem.findIdx (pOf node)]? = none) : incOf V node = 0 := by unfold incOf; rw [hm]
theorem ins_map (l : List Mb) (node : Int) (m : Mb) (hm : unr m = m) : (ins l (l.findIdx (pBehind node)) m).map unr = ins (l.map unr) ((l.map unr).findIdx (pBehind node)) m := by
  have e : (l.map unr).findIdx (pBehind node) = l.findIdx (pBehind node) := by
    rw [List.findIdx_map]
    rfl
  unfold ins
  rw [e, List.map_append, List.map_append, List.map_take, List.map_drop, List.map_cons, List.map_nil, hm]
theorem dead_less {V : Vw} (h : Ok V) {m : Mb} (hin : m ∈ V.mem) : ∀ x ∈ V.dead, x.1 = m.1 → x.2.1 < m.2.1 := fun x hx e => by
  obtain ⟨h1, h2, h3, h4, h5, h6⟩ := h.dd x hx
  have := h6 m hin
  have := (h.mm m hin).2.2.2
  rw [e] at h4
  omega
theorem join_eq {V : Vw} (h : Ok V) (node : Int) : joinD V node = joinV V node := by
  unfold joinD joinV
  split
  · rename_i hj
    have hw := without_mem h node
    cases hm : V.mem[V.mem.findIdx (pOf node)]? with
    | none =>
      have hlen : V.mem.length ≤ V.mem.findIdx (pOf node) := List.getElem?_eq_none_iff.1 hm
      rw [incOf_none hm, if_neg (by omega)]
      have hd : diedV V node = V := by unfold diedV; rw [hm]
      rw [List.take_of_length_le hlen, List.drop_eq_nil_of_le (by omega), List.append_nil] at hw
      rw [hw, hd]
      have hn := of_none hm
      rw [put_eq (by
        intro x hx e
        obtain ⟨y, hy, rfl⟩ := List.mem_map.1 hx
        exact absurd e (hn y hy))]
      unfold turnV comeV
      simp only
      rw [ins_map _ _ _ rfl]
    | some m =>
      obtain ⟨e1, e2⟩ := incOf_some h hm
      have hin := List.mem_of_getElem? hm
      have hnode := (of_at hm).1
      rw [e1, if_pos e2]
      have hd : diedV V node = dieV V (V.mem.findIdx (pOf node)) m := by unfold diedV; rw [hm]
      rw [hw, hd]
      have hout := out_of h.mp hm
      rw [hnode] at hout
      have hp : putR V.dead (node, m.2.1, false) = ins V.dead (V.dead.findIdx (pBehind node)) (node, m.2.1, false) := put_eq (by
        intro x hx e
        exact dead_less h hin x hx (by rw [hnode]; exact e))
      rw [hp, put_eq (by
        intro x hx e
        obtain ⟨y, hy, rfl⟩ := List.mem_map.1 hx
        exact absurd e (hout y hy))]
      unfold turnV comeV dieV
      simp only
      rw [ins_map _ _ _ rfl, hnode]
      rfl
  · rfl
/-- The document's Leave. -/
def leaveD (V : Vw) (node : Int) : Vw :=
  { V with mem := (V.mem.filter (pWo node 0)).map unr, dead := putR V.dead (node, incOf V node, false), epoch := V.epoch + 1 }
theorem leave_eq {V : Vw} (h : Ok V) {by_ node : Int} (hl : leaveB V by_ node = true) : leaveD V node = leaveV V by_ node := by
  obtain ⟨m, hm, e, _⟩ := leave_parts hl
  obtain ⟨e1, _⟩ := incOf_some h hm
  have hin := List.mem_of_getElem? hm
  have hnode := (of_at hm).1
  rw [e]
  unfold leaveD
  rw [without_mem h node, e1, put_eq (by
    intro x hx e
    exact dead_less h hin x hx (by rw [hnode]; exact e))]
  unfold turnV dieV
  simp only
  rw [hnode]
  rfl
theorem bury_eq {V : Vw} (h : Ok V) {node inc : Int} (hi : inc ≠ 0) (hb : buryB V node inc = true) : { V with dead := V.dead.filter (pWo node inc) } = buryV V node inc := by
  unfold buryV
  rw [if_pos hb, without_dead h hi]
end Go.Proofs.Ytnbhjehaecifcaa
