/- Views that may be, and what each change leaves of them: the plain part. -/
import Derived.Test.YtnbhjehaecifcaaLk06
namespace Go.Proofs.Ytnbhjehaecifcaa
open Go.RowKit

/-- One member stands ahead of another one. -/
def ltP (a b : Mb) : Prop := a.1 < b.1 ∨ a.1 = b.1 ∧ a.2.1 < b.2.1
theorem ord_lt (a b : Mb) : ordI a b < 0 ↔ ltP a b := by
  unfold ordI orI cmpI ltP
  split <;> split <;> (try split) <;> (try split) <;> simp_all <;> omega
theorem ltM_iff (a b : Mb) : ltM a b = true ↔ ltP a b := by
  unfold ltM
  rw [decide_eq_true_eq, ord_lt]
theorem ltP_trans {a b c : Mb} (h : ltP a b) (k : ltP b c) : ltP a c := by
  unfold ltP at *
  omega
theorem ris_pair : ∀ l : List Mb, risB l = true ↔ l.Pairwise ltP
  | [] => by simp [risB]
  | [a] => by simp [risB]
  | a :: b :: t => by
    have ih := ris_pair (b :: t)
    rw [show risB (a :: b :: t) = (ltM a b && risB (b :: t)) from rfl, Bool.and_eq_true, ltM_iff, ih, List.pairwise_cons (a := a) (l := b :: t)]
    constructor
    · rintro ⟨h1, h2⟩
      refine ⟨fun x hx => ?_, h2⟩
      rcases List.mem_cons.1 hx with rfl | hx
      · exact h1
      · exact ltP_trans h1 ((List.pairwise_cons.1 h2).1 x hx)
    · rintro ⟨h1, h2⟩
      exact ⟨h1 b (by simp), h2⟩
/-- A view that may be. -/
structure Ok (V : Vw) : Prop where
  n1 : 1 ≤ V.nodes
  n8 : V.nodes ≤ 8
  e0 : 0 ≤ V.epoch
  e1 : V.epoch ≤ 1099511627776
  len : (V.incs.length : Int) = V.nodes
  inc : ∀ z ∈ V.incs, 0 ≤ z ∧ z ≤ 1099511627776
  mp : V.mem.Pairwise (fun a b => a.1 < b.1)
  mm : ∀ m ∈ V.mem, 0 ≤ m.1 ∧ m.1 < V.nodes ∧ 1 ≤ m.2.1 ∧ m.2.1 = incAt V m.1
  dl : V.dead.length ≤ 20
  dp : V.dead.Pairwise ltP
  dd : ∀ d ∈ V.dead, 0 ≤ d.1 ∧ d.1 < V.nodes ∧ 1 ≤ d.2.1 ∧ d.2.1 ≤ incAt V d.1 ∧ d.2.2 = false ∧ ∀ m ∈ V.mem, ¬ (m.1 = d.1 ∧ m.2.1 = d.2.1)
theorem pair_of {l : List Mb} {f : Int → Int} (h : l.Pairwise ltP) (hm : ∀ m ∈ l, m.2.1 = f m.1) : l.Pairwise (fun a b => a.1 < b.1) := by
  refine List.Pairwise.imp_of_mem ?_ h
  intro a b ha hb hab
  rcases hab with hab | ⟨h1, h2⟩
  · exact hab
  · have := hm a ha; have := hm b hb
    rw [h1] at *
    omega
theorem ok_iff (V : Vw) : chkB V = true ↔ Ok V := by
  simp only [chkB, countsB, memB, deadB, Bool.and_eq_true, decide_eq_true_eq, Bool.not_eq_true', List.any_eq_false, ris_pair]
  constructor
  · rintro ⟨⟨n1, n8, he, len, hz⟩, ⟨mp, mm⟩, dl, dp, dd⟩
    have mm' : ∀ m ∈ V.mem, 0 ≤ m.1 ∧ m.1 < V.nodes ∧ 1 ≤ m.2.1 ∧ m.2.1 = incAt V m.1 := fun m hm => by
      have := mm m hm
      simp [mbad, thereB] at this
      omega
    refine ⟨n1, n8, by simp [wrongB] at he; omega, by simp [wrongB] at he; omega, len, fun z hz' => by have := hz z hz'; simp [wrongB] at this; omega, pair_of mp (fun m hm => (mm' m hm).2.2.2), mm', dl, dp, fun d hd => ?_⟩
    have := dd d hd
    simp [dbad, thereB, pIs] at this
    obtain ⟨h1, h2, h3, h4, h5⟩ := this
    refine ⟨by omega, by omega, by omega, by omega, h4, fun m hm => ?_⟩
    obtain ⟨m1, m2, m3⟩ := m
    rintro ⟨rfl, rfl⟩
    cases m3
    · exact h5.1 hm
    · exact h5.2 hm
  · intro h
    refine ⟨⟨h.n1, h.n8, by have := h.e0; have := h.e1; simp [wrongB]; omega, h.len, fun z hz => by have := h.inc z hz; simp [wrongB]; omega⟩, ⟨h.mp.imp (fun h => .inl h), fun m hm => ?_⟩, h.dl, h.dp, fun d hd => ?_⟩
    · have := h.mm m hm
      simp [mbad, thereB]
      omega
    · obtain ⟨h1, h2, h3, h4, h5, h6⟩ := h.dd d hd
      simp only [dbad, thereB, h5, Bool.or_eq_true, Bool.not_eq_true', Bool.and_eq_false_iff, decide_eq_false_iff_not, decide_eq_true_eq, List.any_eq_true, pIs, Bool.and_eq_true, beq_iff_eq]
      rintro (h | h | h | h | ⟨m, hm, h⟩)
      · omega
      · omega
      · omega
      · cases h
      · exact h6 m hm h
theorem chkE_ok {V : Vw} (h : Ok V) : chkE V = 0 := by unfold chkE; rw [(ok_iff V).2 h]; rfl

/-! ### places in lists -/
/-- A list cut where one is first so. -/
theorem cut_at {α : Type} (p : α → Bool) : ∀ l : List α, (∀ x ∈ l.take (l.findIdx p), p x = false) ∧ (∀ x, l[l.findIdx p]? = some x → p x = true)
  | [] => by simp
  | a :: l => by
    have ih := cut_at p l
    by_cases h : p a = true
    · simp [List.findIdx_cons, h]
    · have h' : p a = false := by simpa using h
      simp only [List.findIdx_cons, h', cond_false, List.take_succ_cons, List.mem_cons, List.getElem?_cons_succ]
      refine ⟨?_, ih.2⟩
      rintro x (rfl | hx)
      · exact h'
      · exact ih.1 x hx
/-- In a list that rises by r, one put in where all behind it are greater, and all ahead of it are less. -/
theorem put_pair {r : Mb → Mb → Prop} {l : List Mb} {m : Mb} {i : Nat} (h : l.Pairwise r) (h1 : ∀ x ∈ l.take i, r x m) (h2 : ∀ x ∈ l.drop i, r m x) : (l.take i ++ [m] ++ l.drop i).Pairwise r := by
  have hs : (l.take i ++ l.drop i).Pairwise r := by rw [List.take_append_drop]; exact h
  obtain ⟨ha, hb, hc⟩ := List.pairwise_append.1 hs
  refine List.pairwise_append.2 ⟨List.pairwise_append.2 ⟨ha, List.pairwise_singleton _ _, ?_⟩, hb, ?_⟩
  · intro x hx y hy
    obtain rfl := List.mem_singleton.1 hy
    exact h1 x hx
  · intro x hx y hy
    rcases List.mem_append.1 hx with hx | hx
    · exact hc x hx y hy
    · obtain rfl := List.mem_singleton.1 hx
      exact h2 y hy
theorem mem_ins {l : List Mb} {i : Nat} {m x : Mb} : x ∈ l.take i ++ [m] ++ l.drop i ↔ x = m ∨ x ∈ l := by
  constructor
  · intro h
    simp only [List.mem_append, List.mem_singleton] at h
    rcases h with (h | h) | h
    · exact .inr (List.mem_of_mem_take h)
    · exact .inl h
    · exact .inr (List.mem_of_mem_drop h)
  · rintro (rfl | h)
    · simp
    · rw [← List.take_append_drop i l] at h
      simp only [List.mem_append, List.mem_singleton] at h ⊢
      rcases h with h | h
      · exact .inl (.inl h)
      · exact .inr h
theorem drop_sub (l : List Mb) (i : Nat) : (l.take i ++ l.drop (i + 1)).Sublist l := by
  have : (l.take i ++ l.drop (i + 1)).Sublist (l.take i ++ l.drop i) := (List.Sublist.refl _).append (by
    rw [show l.drop (i + 1) = (l.drop i).drop 1 by rw [List.drop_drop]]
    exact List.drop_sublist _ _)
  rwa [List.take_append_drop] at this
/-- All behind the first one of a greater node are of greater nodes. -/
theorem behind_drop {l : List Mb} {node : Int} (h : l.Pairwise (fun a b => a.1 ≤ b.1)) : ∀ x ∈ l.drop (l.findIdx (pBehind node)), node < x.1 := by
  intro x hx
  obtain ⟨j, hj, rfl⟩ := List.mem_iff_getElem.1 hx
  rw [List.getElem_drop]
  have hlt : l.findIdx (pBehind node) + j < l.length := by rw [List.length_drop] at hj; omega
  have hF : l.findIdx (pBehind node) < l.length := by omega
  have h0 : node < (l[l.findIdx (pBehind node)]'hF).1 := by
    have := (cut_at (pBehind node) l).2 _ (List.getElem?_eq_getElem hF)
    simpa [pBehind] using this
  rcases Nat.eq_zero_or_pos j with rfl | hj0
  · exact h0
  · have := List.pairwise_iff_getElem.1 h _ _ hF hlt (by omega)
    omega
theorem ahead_take {l : List Mb} {node : Int} : ∀ x ∈ l.take (l.findIdx (pBehind node)), x.1 ≤ node := by
  intro x hx
  have := (cut_at (pBehind node) l).1 x hx
  simpa [pBehind] using this
/-- The member of a node, if there is one. -/
theorem of_at {l : List Mb} {node : Int} {m : Mb} (h : l[l.findIdx (pOf node)]? = some m) : m.1 = node ∧ m ∈ l := by
  refine ⟨by simpa [pOf] using (cut_at (pOf node) l).2 m h, List.mem_of_getElem? h⟩
theorem of_none {l : List Mb} {node : Int} (h : l[l.findIdx (pOf node)]? = none) : ∀ m ∈ l, m.1 ≠ node := by
  intro m hm e
  have : l.findIdx (pOf node) < l.length := List.findIdx_lt_length.2 ⟨m, hm, by simp [pOf, e]⟩
  rw [List.getElem?_eq_none_iff] at h
  omega
/-- Without the member of a node nobody is of it. -/
theorem out_of {l : List Mb} (h : l.Pairwise (fun a b => a.1 < b.1)) {i : Nat} {m : Mb} (hm : l[i]? = some m) : ∀ x ∈ l.take i ++ l.drop (i + 1), x.1 ≠ m.1 := by
  obtain ⟨hi, rfl⟩ := List.getElem?_eq_some_iff.1 hm
  intro x hx
  rcases List.mem_append.1 hx with hx | hx
  · obtain ⟨j, hj, rfl⟩ := List.mem_take_iff_getElem.1 hx
    have := List.pairwise_iff_getElem.1 h j i (by omega) hi (by omega)
    omega
  · obtain ⟨j, hj, rfl⟩ := List.mem_iff_getElem.1 hx
    rw [List.getElem_drop]
    rw [List.length_drop] at hj
    have := List.pairwise_iff_getElem.1 h i (i + 1 + j) hi (by omega) (by omega)
    omega

/-! ### the changes -/
theorem set_at (l : List Int) (n k : Int) (z : Int) (hn : 0 ≤ n) (hk : 0 ≤ k) (hl : n < l.length) : (l.set n.toNat z).getD k.toNat 0 = if k = n then z else l.getD k.toNat 0 := by
  by_cases e : k = n
  · subst e
    rw [if_pos rfl, List.getD_eq_getElem?_getD, List.getElem?_set_self (by omega)]
    rfl
  · rw [if_neg e, List.getD_eq_getElem?_getD, List.getElem?_set_ne (by omega), ← List.getD_eq_getElem?_getD]
theorem incAt_mem {V : Vw} (h : Ok V) {k : Int} (h0 : 0 ≤ k) (h1 : k < V.nodes) : 0 ≤ incAt V k ∧ incAt V k ≤ 1099511627776 := by
  have hl := h.len
  have : k.toNat < V.incs.length := by omega
  have hm : incAt V k ∈ V.incs := by
    unfold incAt
    rw [List.getD_eq_getElem?_getD, List.getElem?_eq_getElem this]
    exact List.getElem_mem _
  exact h.inc _ hm
theorem ok_mem {V : Vw} {l : List Mb} (h : Ok V) (hp : l.Pairwise (fun a b => a.1 < b.1)) (hm : ∀ m ∈ l, ∃ x ∈ V.mem, x.1 = m.1 ∧ x.2.1 = m.2.1) : Ok { V with mem := l } :=
  { h with
    mp := hp
    mm := fun m hm' => by
      obtain ⟨x, hx, e1, e2⟩ := hm m hm'
      have := h.mm x hx
      have e3 : incAt { V with mem := l } m.1 = incAt V m.1 := rfl
      rw [e3, ← e1, ← e2]
      exact this
    dd := fun d hd => by
      obtain ⟨h1, h2, h3, h4, h5, h6⟩ := h.dd d hd
      refine ⟨h1, h2, h3, h4, h5, fun m hm' e => ?_⟩
      obtain ⟨x, hx, e1, e2⟩ := hm m hm'
      exact h6 x hx ⟨by rw [e1]; exact e.1, by rw [e2]; exact e.2⟩ }
theorem ok_dead {V : Vw} {l : List Mb} (h : Ok V) (hs : l.Sublist V.dead) : Ok { V with dead := l } :=
  { h with
    dl := Nat.le_trans hs.length_le h.dl
    dp := h.dp.sublist hs
    dd := fun d hd => h.dd d (hs.subset hd) }
theorem dead_le {V : Vw} (h : Ok V) : V.dead.Pairwise (fun a b => a.1 ≤ b.1) := h.dp.imp (fun h => by unfold ltP at h; omega)
theorem mem_le {V : Vw} (h : Ok V) : V.mem.Pairwise (fun a b => a.1 ≤ b.1) := h.mp.imp (fun h => by omega)
/-- Somebody dies. -/
theorem ok_die {V : Vw} (h : Ok V) {i : Nat} {m : Mb} (hm : V.mem[i]? = some m) (hl : V.dead.length < 20) : Ok (dieV V i m) ∧ ∀ x ∈ (dieV V i m).mem, x.1 ≠ m.1 := by
  have hin : m ∈ V.mem := List.mem_of_getElem? hm
  obtain ⟨a1, a2, a3, a4⟩ := h.mm m hin
  have hout := out_of h.mp hm
  have hsub := drop_sub V.mem i
  have hdl : ∀ x ∈ V.dead, x.1 = m.1 → x.2.1 < m.2.1 := fun x hx e => by
    obtain ⟨h1, h2, h3, h4, h5, h6⟩ := h.dd x hx
    have := h6 m hin
    rw [e, ← a4] at h4
    omega
  refine ⟨?_, hout⟩
  have h1 : Ok { V with mem := V.mem.take i ++ V.mem.drop (i + 1) } := ok_mem h (h.mp.sublist hsub) (fun x hx => ⟨x, hsub.subset hx, rfl, rfl⟩)
  refine { h1 with dl := ?_, dp := ?_, dd := ?_ }
  · simp [dieV]; omega
  · refine put_pair h.dp (fun x hx => ?_) (fun x hx => ?_)
    · have := ahead_take x hx
      have hx' := List.mem_of_mem_take hx
      have := hdl x hx'
      unfold ltP
      simp only
      omega
    · have := behind_drop (dead_le h) x hx
      exact .inl this
  · intro d hd
    rcases mem_ins.1 hd with rfl | hd
    · refine ⟨a1, a2, a3, by rw [a4]; exact Int.le_refl _, rfl, fun x hx e => hout x hx e.1⟩
    · exact h1.dd d hd
/-- All have to find their way. -/
theorem ok_turn {V : Vw} (h : Ok V) (he : V.epoch < 1099511627776) : Ok (turnV V) := by
  have h1 : Ok { V with mem := V.mem.map unr } := ok_mem h (List.pairwise_map.2 (h.mp.imp (fun h => h))) (fun m hm => by
    obtain ⟨x, hx, rfl⟩ := List.mem_map.1 hm
    exact ⟨x, hx, rfl, rfl⟩)
  exact { h1 with e0 := by have := h.e0; show 0 ≤ V.epoch + 1; omega, e1 := by show V.epoch + 1 ≤ _; omega }
/-- One more comes. -/
theorem ok_come {V : Vw} (h : Ok V) {node : Int} (h0 : 0 ≤ node) (h1 : node < V.nodes) (hi : incAt V node < 1099511627776) (hn : ∀ m ∈ V.mem, m.1 ≠ node) : Ok (comeV V node (incAt V node + 1)) := by
  have hl := h.len
  have hb := incAt_mem h h0 h1
  have hat : ∀ k, 0 ≤ k → incAt (comeV V node (incAt V node + 1)) k = if k = node then incAt V node + 1 else incAt V k := fun k hk => set_at _ _ _ _ h0 hk (by omega)
  refine { h with len := ?_, inc := ?_, mp := ?_, mm := ?_, dd := ?_ }
  · simp [comeV, h.len]
  · intro z hz
    rcases List.mem_or_eq_of_mem_set hz with hz | rfl
    · exact h.inc z hz
    · omega
  · refine put_pair h.mp (fun x hx => ?_) (fun x hx => ?_)
    · have := ahead_take x hx
      have := hn x (List.mem_of_mem_take hx)
      show x.1 < node
      omega
    · exact behind_drop (mem_le h) x hx
  · intro m hm
    rcases mem_ins.1 hm with rfl | hm
    · exact ⟨h0, h1, by show 1 ≤ incAt V node + 1; omega, by rw [hat _ h0, if_pos rfl]⟩
    · obtain ⟨b1, b2, b3, b4⟩ := h.mm m hm
      exact ⟨b1, b2, b3, by rw [hat _ b1, if_neg (hn m hm)]; exact b4⟩
  · intro d hd
    obtain ⟨b1, b2, b3, b4, b5, b6⟩ := h.dd d hd
    refine ⟨b1, b2, b3, ?_, b5, ?_⟩
    · rw [hat _ b1]
      split
      · rename_i e
        rw [e] at b4
        omega
      · exact b4
    · intro m hm e
      rcases mem_ins.1 hm with rfl | hm
      · obtain ⟨e1, e2⟩ := e
        simp only at e1 e2
        rw [← e1] at b4
        omega
      · exact b6 m hm e
theorem ok_died {V : Vw} (h : Ok V) (node : Int) (hl : V.dead.length < 20) : Ok (diedV V node) ∧ ∀ x ∈ (diedV V node).mem, x.1 ≠ node := by
  unfold diedV
  split
  · rename_i m hm
    have := ok_die h hm hl
    rw [(of_at hm).1] at this
    exact this
  · rename_i hm
    exact ⟨h, of_none hm⟩
theorem joinOk_parts {V : Vw} {node : Int} (h : joinOk V node = true) : Ok V ∧ V.epoch < 1099511627776 ∧ V.dead.length < 20 ∧ 0 ≤ node ∧ node < V.nodes ∧ incAt V node < 1099511627776 := by
  simp only [joinOk, turnsB, thereB, Bool.and_eq_true, decide_eq_true_eq] at h
  exact ⟨(ok_iff V).1 h.1.1, h.1.2.1, h.1.2.2, h.2.1.1, h.2.1.2, h.2.2⟩
theorem died_inc (V : Vw) (node k : Int) : incAt (diedV V node) k = incAt V k := by
  unfold incAt
  rw [(died_len V node).2.2.1]
theorem ok_join {V : Vw} (h : Ok V) (node : Int) : Ok (joinV V node) := by
  unfold joinV
  split
  · rename_i hj
    obtain ⟨_, h1, h2, h3, h4, h5⟩ := joinOk_parts hj
    obtain ⟨k1, k2⟩ := ok_died h node h2
    have hd := died_len V node
    have hc := ok_come k1 h3 (by rw [hd.2.2.2.2]; exact h4) (by rw [died_inc]; exact h5) k2
    rw [died_inc] at hc
    exact ok_turn hc (by show (diedV V node).epoch < _; rw [hd.2.2.2.1]; exact h1)
  · exact h
theorem leave_parts {V : Vw} {by_ node : Int} (h : leaveB V by_ node = true) : ∃ m, V.mem[V.mem.findIdx (pOf node)]? = some m ∧ leaveV V by_ node = turnV (dieV V (V.mem.findIdx (pOf node)) m) ∧ V.epoch < 1099511627776 ∧ V.dead.length < 20 ∧ V.nodes < 2 * ((V.mem.length : Int) - 1) := by
  have h' := h
  simp only [leaveB, turnsB, Bool.and_eq_true, decide_eq_true_eq] at h
  obtain ⟨⟨_, h1, h2⟩, _, h3, _, h4⟩ := h
  refine ⟨_, List.getElem?_eq_getElem h3, ?_, h1, h2, h4⟩
  unfold leaveV
  rw [h', List.getElem?_eq_getElem h3]
  rfl
theorem leave_not {V : Vw} {by_ node : Int} (h : leaveB V by_ node = false) : leaveV V by_ node = V := by
  unfold leaveV
  rw [h]
  rfl
theorem ok_leave {V : Vw} (h : Ok V) (by_ node : Int) : Ok (leaveV V by_ node) := by
  cases hl : leaveB V by_ node with
  | false => rw [leave_not hl]; exact h
  | true =>
    obtain ⟨m, hm, e, h1, h2, _⟩ := leave_parts hl
    rw [e]
    exact ok_turn (ok_die h hm h2).1 h1
theorem is_at {l : List Mb} {node inc : Int} {m : Mb} (h : l[l.findIdx (pIs node inc)]? = some m) : m.1 = node ∧ m.2.1 = inc := by
  have := (cut_at (pIs node inc) l).2 m h
  simpa [pIs] using this
theorem ready_parts {V : Vw} {node inc : Int} (h : readyB V node inc = true) : ∃ m, V.mem[V.mem.findIdx (pIs node inc)]? = some m ∧ m.2.2 = false ∧ readyV V node inc = { V with mem := V.mem.set (V.mem.findIdx (pIs node inc)) (m.1, m.2.1, true) } := by
  have h' := h
  simp only [readyB, Bool.and_eq_true] at h
  obtain ⟨_, h2⟩ := h
  revert h2
  cases hm : V.mem[V.mem.findIdx (pIs node inc)]? with
  | none => intro h2; cases h2
  | some m =>
    intro h2
    refine ⟨m, rfl, by simpa using h2, ?_⟩
    unfold readyV
    rw [h', hm]
    rfl
theorem ready_not {V : Vw} {node inc : Int} (h : readyB V node inc = false) : readyV V node inc = V := by
  unfold readyV
  rw [h]
  rfl
theorem ok_ready {V : Vw} (h : Ok V) (node inc : Int) : Ok (readyV V node inc) := by
  cases hl : readyB V node inc with
  | false => rw [ready_not hl]; exact h
  | true =>
    obtain ⟨m, hm, _, e⟩ := ready_parts hl
    rw [e]
    obtain ⟨hi, hg⟩ := List.getElem?_eq_some_iff.1 hm
    refine ok_mem h ?_ (fun x hx => ?_)
    · rw [List.pairwise_iff_getElem]
      intro i j hi' hj' hij
      rw [List.length_set] at hi' hj'
      have := List.pairwise_iff_getElem.1 h.mp i j hi' hj' hij
      rw [List.getElem_set, List.getElem_set]
      split <;> split
      · omega
      · rename_i e _; subst e; rw [hg] at this; exact this
      · rename_i _ e; subst e; rw [hg] at this; exact this
      · exact this
    · rcases List.mem_or_eq_of_mem_set hx with hx | rfl
      · exact ⟨x, hx, rfl, rfl⟩
      · exact ⟨m, List.mem_of_getElem? hm, rfl, rfl⟩
theorem bury_not {V : Vw} {node inc : Int} (h : buryB V node inc = false) : buryV V node inc = V := by
  unfold buryV
  rw [h]
  rfl
theorem ok_bury {V : Vw} (h : Ok V) (node inc : Int) : Ok (buryV V node inc) := by
  unfold buryV
  split
  · exact ok_dead h (drop_sub _ _)
  · exact h
theorem ok_new (n : Int) : Ok (newV n) := by
  have := clamp_pos n
  refine ⟨?_, ?_, Int.le_refl _, ?_, ?_, ?_, List.Pairwise.nil, fun m hm => (by cases hm), ?_, List.Pairwise.nil, fun m hm => (by cases hm)⟩
  · show 1 ≤ ((clampN n : Nat) : Int); omega
  · show ((clampN n : Nat) : Int) ≤ 8; omega
  · show (0 : Int) ≤ _; omega
  · simp [newV]
  · intro z hz
    simp only [newV, List.mem_replicate] at hz
    omega
  · simp [newV]
/-- Of n nodes there are n members at most. -/
theorem rise_len {l : List Mb} {lo n : Int} (h : l.Pairwise (fun a b => a.1 < b.1)) (hm : ∀ m ∈ l, lo ≤ m.1 ∧ m.1 < n) (hlo : lo ≤ n) : (l.length : Int) ≤ n - lo := by
  induction l generalizing lo with
  | nil => simp; omega
  | cons a l ih =>
    obtain ⟨h1, h2⟩ := List.pairwise_cons.1 h
    have ha := hm a (by simp)
    have := ih (lo := a.1 + 1) h2 (fun m hm' => by have := h1 m hm'; have := hm m (by simp [hm']); omega) (by omega)
    simp only [List.length_cons]
    omega
theorem ok_len {V : Vw} (h : Ok V) : (V.mem.length : Int) ≤ V.nodes := by
  have := rise_len (lo := 0) (n := V.nodes) h.mp (fun m hm => ⟨(h.mm m hm).1, (h.mm m hm).2.1⟩) (by have := h.n1; omega)
  omega
theorem ok_sm {V : Vw} (h : Ok V) : Sm V := by
  have h1 := ok_len h
  have h2 := h.n8
  have h3 := h.len
  have h4 := h.dl
  exact ⟨by omega, by omega, by omega⟩
end Go.Proofs.Ytnbhjehaecifcaa
