/- A region that draws its order, in which one operation that acts may come at any time until others wait for it: one walk that branches. -/
import Derived.Test.YtnoidhfhnaemgaaDoorMix
namespace Go.Proofs.YtnoidhfhnaemgaaDoor
open Go.RowKit

section
variable {P : Program} {ops : Array Oper} {C : World → Prop} {Q : Exit → Act → World → Prop}

/-- One step of a walk of a known order. -/
theorem stepM {ord : List (Nat × Nat)} (hsel : noSelB ops = true) (hk2' : ∀ p ∈ ord, p.2 ≤ 2 ∧ p.1 < ops.size) (hprs : pairsB ops (masks .any ops.toList []) ord = true) {L : Array Bool} {a : Act} {w : World} {i k : Nat} (hL : L.size = ops.size) (hi : i ∈ Region.ready .any ops L) (hM : Mixed P ops .any C Q ord L a w) (hmem : (i, k) ∈ ord) :
    wpOp P ops Q i (fun a' w' => Mixed P ops .any C Q ord (L.setIfInBounds i true) a' w') a w := by
  obtain ⟨h1, o, ho, hdep⟩ := mem_ready.1 hi
  have hilt : i < ops.size := (Array.getElem?_eq_some_iff.1 ho).1
  have hiL : i < L.size := by omega
  have hi0 : L.getD i false = false := by simpa [Array.getD, hiL] using h1
  obtain ⟨pre, post, hord⟩ := List.append_of_mem hmem
  have hk3 : k ≤ 2 := (hk2' _ hmem).1
  have hsp := pairs_split (hord ▸ hprs)
  have hne1 : ∀ p ∈ pre, p.1 ≠ i := fun p hp e => by
    have := hsp.1 p hp
    simp [pairB, e] at this
  have hne2 : ∀ p ∈ post, p.1 ≠ i := fun p hp e => by
    have := hsp.2 p hp
    simp [pairB, e] at this
  have hsound : Sound ops .any (fun j => L.getD j false = true) (masks .any ops.toList []) :=
    masks_sound hM.deps ops.toList [] (fun k o hk => by simpa using hk) (fun i o _ _ j hj => by simp at hj)
  have hq : ∀ p ∈ left L pre, p.2 = 0 ∧ k ≠ 2 ∧ ∀ oj, ops[p.1]? = some oj → oj.apart ops o = true := by
    intro p hp
    obtain ⟨hp1, hp2⟩ := List.mem_filter.1 hp
    have hb := hsp.1 p hp1
    have hnd : ((masks .any ops.toList []).getD i 0).testBit p.1 = false := by
      cases hc : ((masks .any ops.toList []).getD i 0).testBit p.1 with
      | false => rfl
      | true =>
        have := hsound i o ho hdep p.1 hc
        simp only [this] at hp2
        cases hp2
    simp only [pairB, hnd, Bool.false_or, Bool.and_eq_true, beq_iff_eq, bne_iff_ne] at hb
    refine ⟨hb.1.2.1.1, hb.1.2.1.2, fun oj hoj => ?_⟩
    have := hb.1.2.2
    rw [hoj, ho] at this
    exact this
  have hleft : left L ord = left L pre ++ (i, k) :: left L post := by
    rw [hord]
    unfold left
    rw [List.filter_append, List.filter_cons, hi0]
    rfl
  have hset : left (L.setIfInBounds i true) ord = left L pre ++ left L post := by
    rw [hord]; exact left_set hiL hne1 hne2
  have hdeps : ∀ j, (L.setIfInBounds i true).getD j false = true → ∃ oj, ops[j]? = some oj ∧ ∀ e ∈ oj.after, Region.binds .any e = true → (L.setIfInBounds i true).getD e.on false = true := by
    intro j hj
    rw [getD_set' _ _ _ hiL] at hj
    split at hj
    · rename_i e
      subst e
      exact ⟨o, ho, fun e he hb => by rw [getD_set' _ _ _ hiL, hdep e he hb]; split <;> rfl⟩
    · obtain ⟨oj, hoj, hd⟩ := hM.deps j hj
      exact ⟨oj, hoj, fun e he hb => by rw [getD_set' _ _ _ hiL, hd e he hb]; split <;> rfl⟩
  have hW := hM.walk
  rw [hleft] at hW
  unfold wpOp
  simp only [ho]
  match k, hk3 with
  | 0, _ =>
    obtain ⟨v, hy, hn⟩ := pull0 hsel ho (left L post) (left L pre) a w (fun p hp => ⟨(hq p hp).1, (hq p hp).2.2⟩) hW
    have hCw : C w := hM.held ⟨(i, 0), by rw [hleft]; simp, rfl⟩
    have fin : Mixed P ops .any C Q ord (L.setIfInBounds i true) (a.put o.dst v) w := ⟨by rw [hset]; exact hn, fun _ => hCw, hdeps⟩
    rcases hy with ⟨hw, hrun⟩ | ⟨hw, rfl⟩
    · rw [if_pos hw]
      refine .inl ?_
      unfold Oper.wp
      rw [hrun w hCw]
      exact fin
    · rw [if_neg (by rw [hw]; simp)]
      exact fin
  | k + 1, hk3 =>
    have hA := pull1 hsel ho (left L post) (left L pre) a w (fun p hp => ⟨(hq p hp).1, (hq p hp).2.2⟩) hW
    have fin : ∀ v w', ((k = 0 → C w') ∧ wpMix P ops C Q (left L pre ++ left L post) (a.put o.dst v) w') → Mixed P ops .any C Q ord (L.setIfInBounds i true) (a.put o.dst v) w' := by
      rintro v w' ⟨hc, hn⟩
      refine ⟨by rw [hset]; exact hn, fun ⟨p, hp, hp0⟩ => ?_, hdeps⟩
      rw [hset] at hp
      rcases Nat.eq_zero_or_pos k with h0 | h0
      · exact hc h0
      · have hk1 : k = 1 := by omega
        subst hk1
        rcases List.mem_append.1 hp with hp | hp
        · exact absurd rfl (hq p hp).2.1
        · have hb := hsp.2 p (List.mem_filter.1 hp).1
          simp [pairB, hp0] at hb
    unfold ActW at hA
    split at hA
    · rename_i hw
      rw [if_pos hw]
      refine .inl ?_
      unfold Oper.wp
      generalize (execOp a.eval o).run P w = r at hA
      cases r with
      | ok n w' =>
        cases n <;> simp only [Acted] at hA <;> simp only [Oper.upon]
        case value v => exact fin v w' hA
        case skip => exact fin undef w' hA
        case enter f args =>
          refine hA.mono ?_
          rintro e w'' ⟨v, rfl, hk⟩
          exact fin v w'' hk
      | halt x w' => simp only [Acted] at hA
    · rename_i hw
      rw [if_neg hw]
      exact fin undef w hA

theorem wpOp_act' {i : Nat} {o : Oper} {a : Act} {w : World} {K : Act → World → Prop} (ho : ops[i]? = some o) (hA : ActW P ops o a w (fun v w' => K (a.put o.dst v) w')) : wpOp P ops Q i K a w := by
  unfold wpOp
  simp only [ho]
  unfold ActW at hA
  split at hA
  · rename_i hw
    rw [if_pos hw]
    refine .inl ?_
    unfold Oper.wp
    generalize (execOp a.eval o).run P w = r at hA
    cases r with
    | ok n w' =>
      cases n <;> simp only [Acted] at hA <;> simp only [Oper.upon]
      case value v => exact hA
      case skip => exact hA
      case enter f args =>
        refine hA.mono ?_
        rintro e w'' ⟨v, rfl, hk⟩
        exact hk
    | halt x w' => simp only [Acted] at hA
  · rename_i hw
    rw [if_neg hw]
    exact hA
/-- The walk in which y may come at any time: where the list ends, it comes. -/
def wpY (P : Program) (ops : Array Oper) (C : World → Prop) (Q : Exit → Act → World → Prop) (y : Nat) (post : List (Nat × Nat)) : List (Nat × Nat) → Act → World → Prop
  | [], a, w => ∃ oy, ops[y]? = some oy ∧ ActW P ops oy a w (fun v w' => C w' ∧ wpMix P ops C Q post (a.put oy.dst v) w')
  | (i, 0) :: pre, a, w => ∃ o v, ops[i]? = some o ∧ Yld P ops C o v a ∧ wpY P ops C Q y post pre (a.put o.dst v) w
  | (i, k + 1) :: pre, a, w => (∃ oy, ops[y]? = some oy ∧ ActW P ops oy a w (fun v w' => C w' ∧ wpMix P ops C Q ((i, k + 1) :: (pre ++ post)) (a.put oy.dst v) w')) ∧
      ∃ o, ops[i]? = some o ∧ ActW P ops o a w (fun v w' => C w' ∧ wpY P ops C Q y post pre (a.put o.dst v) w')
theorem pullY (hs : noSelB ops = true) {y : Nat} {oy : Oper} (hoy : ops[y]? = some oy) (post : List (Nat × Nat)) : ∀ (pre : List (Nat × Nat)) (a : Act) (w : World),
    (∀ p ∈ pre, p.2 = 0 → ∀ oj, ops[p.1]? = some oj → oj.apart ops oy = true) → wpY P ops C Q y post pre a w → ActW P ops oy a w (fun v w' => C w' ∧ wpMix P ops C Q (pre ++ post) (a.put oy.dst v) w')
  | [], a, w, _, h => by
    obtain ⟨o', ho', hn⟩ := h
    obtain rfl := Option.some.inj (hoy.symm.trans ho')
    exact hn
  | (i, 0) :: pre, a, w, hp, h => by
    obtain ⟨oj, vj, hoj, hyj, hn⟩ := h
    obtain ⟨h1, h2, h3⟩ := Oper.apart_spec (hp (i, 0) (by simp) rfl oj hoj)
    have hk := pullY hs hoy post pre _ w (fun p hpp => hp p (by simp [hpp])) hn
    refine ActW.mono ?_ (hk.of_same (execOp_put oy (noSel hs hoy) a oj.dst vj h1).symm (wanted_put oy a oj.dst vj h1).symm)
    rintro v w' ⟨hc, hw⟩
    refine ⟨hc, oj, vj, hoj, hyj.of_same (execOp_put oj (noSel hs hoj) a oy.dst v h3) (wanted_put oj a oy.dst v h3), ?_⟩
    rw [← Act.put_comm a vj v h2]
    exact hw
  | (i, k + 1) :: pre, a, w, _, h => by
    obtain ⟨⟨o', ho', hn⟩, _⟩ := h
    obtain rfl := Option.some.inj (hoy.symm.trans ho')
    exact hn
theorem pullY0 (hs : noSelB ops = true) {y i : Nat} {o : Oper} (ho : ops[i]? = some o) (post rest : List (Nat × Nat)) : ∀ (pre : List (Nat × Nat)) (a : Act) (w : World),
    (∀ p ∈ pre, p.2 = 0 ∧ ∀ oj, ops[p.1]? = some oj → oj.apart ops o = true) → wpY P ops C Q y post (pre ++ (i, 0) :: rest) a w → ∃ v, Yld P ops C o v a ∧ wpY P ops C Q y post (pre ++ rest) (a.put o.dst v) w
  | [], a, w, _, h => by
    obtain ⟨o', v, ho', hy, hn⟩ := h
    obtain rfl := Option.some.inj (ho.symm.trans ho')
    exact ⟨v, hy, hn⟩
  | (j, m) :: pre, a, w, hp, h => by
    obtain ⟨rfl, hap⟩ := hp (j, m) (by simp)
    obtain ⟨oj, vj, hoj, hyj, hn⟩ := h
    obtain ⟨h1, h2, h3⟩ := Oper.apart_spec (hap oj hoj)
    obtain ⟨v, hy, hk⟩ := pullY0 hs ho post rest pre _ w (fun p hpp => hp p (by simp [hpp])) hn
    refine ⟨v, hy.of_same (execOp_put o (noSel hs ho) a oj.dst vj h1).symm (wanted_put o a oj.dst vj h1).symm, oj, vj, hoj, hyj.of_same (execOp_put oj (noSel hs hoj) a o.dst v h3) (wanted_put oj a o.dst v h3), ?_⟩
    rw [← Act.put_comm a vj v h2]
    exact hk
theorem pullY1 (hs : noSelB ops = true) {y i k : Nat} {o : Oper} (ho : ops[i]? = some o) (post rest : List (Nat × Nat)) : ∀ (pre : List (Nat × Nat)) (a : Act) (w : World),
    (∀ p ∈ pre, p.2 = 0 ∧ ∀ oj, ops[p.1]? = some oj → oj.apart ops o = true) → wpY P ops C Q y post (pre ++ (i, k + 1) :: rest) a w → ActW P ops o a w (fun v w' => C w' ∧ wpY P ops C Q y post (pre ++ rest) (a.put o.dst v) w')
  | [], a, w, _, h => by
    obtain ⟨_, o', ho', hn⟩ := h
    obtain rfl := Option.some.inj (ho.symm.trans ho')
    exact hn
  | (j, m) :: pre, a, w, hp, h => by
    obtain ⟨rfl, hap⟩ := hp (j, m) (by simp)
    obtain ⟨oj, vj, hoj, hyj, hn⟩ := h
    obtain ⟨h1, h2, h3⟩ := Oper.apart_spec (hap oj hoj)
    have hk := pullY1 hs ho post rest pre _ w (fun p hpp => hp p (by simp [hpp])) hn
    refine ActW.mono ?_ (hk.of_same (execOp_put o (noSel hs ho) a oj.dst vj h1).symm (wanted_put o a oj.dst vj h1).symm)
    rintro v w' ⟨hc, hw⟩
    refine ⟨hc, oj, vj, hoj, hyj.of_same (execOp_put oj (noSel hs hoj) a o.dst v h3) (wanted_put oj a o.dst v h3), ?_⟩
    rw [← Act.put_comm a vj v h2]
    exact hw
def chkY (ops : Array Oper) (y : Nat) (pre post : List (Nat × Nat)) : Bool :=
  noSelB ops && (backB' .any ops && ((List.range ops.size).all (fun i => i == y || (pre ++ post).any fun p => p.1 == i) && ((pre ++ post).all (fun p => Nat.ble p.2 2 && Nat.blt p.1 ops.size) && (pairsB ops (masks .any ops.toList []) (pre ++ post) &&
    (pre.all (fun p => Nat.ble p.2 1 && (p.1 != y && (p.2 != 0 || (((masks .any ops.toList []).getD y 0).testBit p.1 || (match ops[p.1]?, ops[y]? with | some x, some z => x.apart ops z | _, _ => false))))) &&
    (post.all (fun p => p.1 != y && ((masks .any ops.toList []).getD p.1 0).testBit y) && Nat.blt y ops.size))))))
structure MixedY (P : Program) (ops : Array Oper) (C : World → Prop) (Q : Exit → Act → World → Prop) (y : Nat) (pre post : List (Nat × Nat)) (L : Array Bool) (a : Act) (w : World) : Prop where
  walk : wpY P ops C Q y post (left L pre) a w
  held : C w
  deps : ∀ i, L.getD i false = true → ∃ o, ops[i]? = some o ∧ ∀ e ∈ o.after, Region.binds .any e = true → L.getD e.on false = true
  noty : L.getD y false = false
/-- **Whatever order is picked**, y at any time: the branching walk serves. -/
theorem wp_region_mixY {id : Nat} {a : Act} {w : World} (hm : P.follows .mixedOrders = true) (C : World → Prop) (y : Nat) (pre post : List (Nat × Nat)) (hchk : chkY ops y pre post = true) (hC : C w.drew)
    (h : wpY P ops C Q y post pre a w.drew) : (Code.region id ops true).wp P Q a w := by
  simp only [chkY, Bool.and_eq_true] at hchk
  obtain ⟨hsel, hback, hall, hk2, hprs, hpre, hpost, hys⟩ := hchk
  have hys' : y < ops.size := Nat.le_of_ble_eq_true hys
  have hk2' : ∀ p ∈ pre ++ post, p.2 ≤ 2 ∧ p.1 < ops.size := fun p hp => by
    have := List.all_eq_true.1 hk2 p hp
    simp only [Bool.and_eq_true] at this
    exact ⟨Nat.le_of_ble_eq_true this.1, Nat.le_of_ble_eq_true this.2⟩
  have hpre' : ∀ p ∈ pre, p.2 ≤ 1 ∧ p.1 ≠ y ∧ (p.2 = 0 → ((masks .any ops.toList []).getD y 0).testBit p.1 = true ∨ (match ops[p.1]?, ops[y]? with | some x, some z => x.apart ops z | _, _ => false) = true) := fun p hp => by
    have := List.all_eq_true.1 hpre p hp
    simp only [Bool.and_eq_true, Bool.or_eq_true, bne_iff_ne] at this
    exact ⟨Nat.le_of_ble_eq_true this.1, this.2.1, fun h0 => this.2.2.elim (fun h => absurd h0 h) (fun h => h)⟩
  have hpost' : ∀ p ∈ post, p.1 ≠ y ∧ ((masks .any ops.toList []).getD p.1 0).testBit y = true := fun p hp => by
    have := List.all_eq_true.1 hpost p hp
    simp only [Bool.and_eq_true, bne_iff_ne] at this
    exact this
  obtain ⟨oy, hoy⟩ : ∃ oy, ops[y]? = some oy := ⟨_, Array.getElem?_eq_getElem hys'⟩
  refine wp_region_any hm ?_
  refine mixAny_inv (fun L a w => MixedY P ops C Q y pre post L a w ∨ (L.getD y false = true ∧ Mixed P ops .any C Q (pre ++ post) L a w)) ?_ ?_ _ _ _ _ (by simp) (by simp) ?_
  · intro L a w i hL hi hI
    have hi2 := hi
    obtain ⟨h1, o, ho, hdep⟩ := mem_ready.1 hi
    have hilt : i < ops.size := (Array.getElem?_eq_some_iff.1 ho).1
    have hiL : i < L.size := by omega
    have hi0 : L.getD i false = false := by simpa [Array.getD, hiL] using h1
    rcases hI with hM | ⟨hy, hM⟩
    · have hsound : Sound ops .any (fun j => L.getD j false = true) (masks .any ops.toList []) :=
        masks_sound hM.deps ops.toList [] (fun k o hk => by simpa using hk) (fun i o _ _ j hj => by simp at hj)
      have hdeps : ∀ j, (L.setIfInBounds i true).getD j false = true → ∃ oj, ops[j]? = some oj ∧ ∀ e ∈ oj.after, Region.binds .any e = true → (L.setIfInBounds i true).getD e.on false = true := by
        intro j hj
        rw [getD_set' _ _ _ hiL] at hj
        split at hj
        · rename_i e
          subst e
          exact ⟨o, ho, fun e he hb => by rw [getD_set' _ _ _ hiL, hdep e he hb]; split <;> rfl⟩
        · obtain ⟨oj, hoj, hd⟩ := hM.deps j hj
          exact ⟨oj, hoj, fun e he hb => by rw [getD_set' _ _ _ hiL, hd e he hb]; split <;> rfl⟩
      have hleftpost : left L post = post := List.filter_eq_self.2 fun p hp => by
        cases hq : L.getD p.1 false with
        | false => rfl
        | true =>
          obtain ⟨op, hop, hd⟩ := hM.deps p.1 hq
          have : L.getD y false = true := hsound p.1 op hop hd y (hpost' p hp).2
          rw [hM.noty] at this
          cases this
      by_cases ey : i = y
      · subst ey
        obtain rfl := Option.some.inj (ho.symm.trans hoy)
        have hA := pullY hsel ho post (left L pre) a w (fun p hp h0 oj hoj => by
          obtain ⟨hp1, hp2⟩ := List.mem_filter.1 hp
          rcases (hpre' p hp1).2.2 h0 with hb | hb
          · have := hsound i o ho hdep p.1 hb
            simp only [this] at hp2
            cases hp2
          · rw [hoj, ho] at hb
            exact hb) hM.walk
        refine wpOp_act' ho (hA.mono fun v w' ⟨hc, hw⟩ => .inr ⟨by rw [getD_set' _ _ _ hiL, if_pos rfl], ⟨?_, fun _ => hc, hdeps⟩⟩)
        have hset : left (L.setIfInBounds i true) (pre ++ post) = left L pre ++ post := by
          have e : ∀ l : List (Nat × Nat), (∀ p ∈ l, p.1 ≠ i) → left (L.setIfInBounds i true) l = left L l := fun l hl => List.filter_congr fun p hp => by
            rw [getD_set' _ _ _ hiL, if_neg (fun h => hl p hp h.symm)]
          have e2 : left (L.setIfInBounds i true) (pre ++ post) = left (L.setIfInBounds i true) pre ++ left (L.setIfInBounds i true) post := List.filter_append ..
          rw [e2, e pre (fun p hp => (hpre' p hp).2.1), e post (fun p hp => (hpost' p hp).1), hleftpost]
        rw [hset]
        exact hw
      · have hin := List.all_eq_true.1 hall i (List.mem_range.2 hilt)
        simp only [Bool.or_eq_true, beq_iff_eq, ey, false_or, List.any_eq_true] at hin
        obtain ⟨⟨i', k⟩, hmem, hii⟩ := hin
        have hii' : i' = i := hii
        subst hii'
        have hmem2 : (i', k) ∈ pre := by
          rcases List.mem_append.1 hmem with h | h
          · exact h
          · have : L.getD y false = true := hsound i' o ho hdep y (hpost' _ h).2
            rw [hM.noty] at this
            cases this
        obtain ⟨pr, po, hord⟩ := List.append_of_mem hmem2
        have hsp := pairs_split (pre := pr) (q := (i', k)) (post := po ++ post) (by rw [hord] at hprs; simpa using hprs)
        have hne1 : ∀ p ∈ pr, p.1 ≠ i' := fun p hp e => by
          have := hsp.1 p hp
          simp [pairB, e] at this
        have hne2 : ∀ p ∈ po, p.1 ≠ i' := fun p hp e => by
          have := hsp.2 p (by simp [hp])
          simp [pairB, e] at this
        have hq : ∀ p ∈ left L pr, p.2 = 0 ∧ ∀ oj, ops[p.1]? = some oj → oj.apart ops o = true := by
          intro p hp
          obtain ⟨hp1, hp2⟩ := List.mem_filter.1 hp
          have hb := hsp.1 p hp1
          have hnd : ((masks .any ops.toList []).getD i' 0).testBit p.1 = false := by
            cases hc : ((masks .any ops.toList []).getD i' 0).testBit p.1 with
            | false => rfl
            | true =>
              have := hsound i' o ho hdep p.1 hc
              simp only [this] at hp2
              cases hp2
          simp only [pairB, hnd, Bool.false_or, Bool.and_eq_true, beq_iff_eq, bne_iff_ne] at hb
          refine ⟨hb.1.2.1.1, fun oj hoj => ?_⟩
          have := hb.1.2.2
          rw [hoj, ho] at this
          exact this
        have hleft : left L pre = left L pr ++ (i', k) :: left L po := by
          rw [hord]
          unfold left
          rw [List.filter_append, List.filter_cons, hi0]
          rfl
        have hset : left (L.setIfInBounds i' true) pre = left L pr ++ left L po := by
          rw [hord]; exact left_set hiL hne1 hne2
        have hny : (L.setIfInBounds i' true).getD y false = false := by rw [getD_set' _ _ _ hiL, if_neg ey]; exact hM.noty
        have hW := hM.walk
        rw [hleft] at hW
        have hk1 := (hpre' _ hmem2).1
        match k, hk1 with
        | 0, _ =>
          obtain ⟨v, hyl, hn⟩ := pullY0 hsel ho post (left L po) (left L pr) a w hq hW
          have fin : MixedY P ops C Q y pre post (L.setIfInBounds i' true) (a.put o.dst v) w := ⟨by rw [hset]; exact hn, hM.held, hdeps, hny⟩
          unfold wpOp
          simp only [ho]
          rcases hyl with ⟨hw, hrun⟩ | ⟨hw, rfl⟩
          · rw [if_pos hw]
            refine .inl ?_
            unfold Oper.wp
            rw [hrun w hM.held]
            exact .inl fin
          · rw [if_neg (by rw [hw]; simp)]
            exact .inl fin
        | k + 1, _ =>
          have hA := pullY1 hsel ho post (left L po) (left L pr) a w hq hW
          exact wpOp_act' ho (hA.mono fun v w' ⟨hc, hn⟩ => .inl ⟨by rw [hset]; exact hn, hc, hdeps, hny⟩)
    · have ey : i ≠ y := fun e => by rw [e, hy] at hi0; cases hi0
      have hin := List.all_eq_true.1 hall i (List.mem_range.2 hilt)
      simp only [Bool.or_eq_true, beq_iff_eq, ey, false_or, List.any_eq_true] at hin
      obtain ⟨⟨i', k⟩, hmem, hii⟩ := hin
      have hii' : i' = i := hii
      subst hii'
      exact wpOp_mono (fun a' w' h => .inr ⟨by rw [getD_set' _ _ _ hiL, if_neg ey]; exact hy, h⟩) (stepM hsel hk2' hprs hL hi2 hM hmem)
  · intro L a w hL hr hI
    have hdone := all_listed' hback hL hr
    rcases hI with hM | ⟨_, hM⟩
    · have := hdone y hys'
      rw [hM.noty] at this
      cases this
    · have hnil : left L (pre ++ post) = [] := by
        rw [List.eq_nil_iff_forall_not_mem]
        intro p hp
        obtain ⟨hp1, hp2⟩ := List.mem_filter.1 hp
        rw [hdone p.1 (hk2' p hp1).2] at hp2
        cases hp2
      have hW := hM.walk
      rw [hnil] at hW
      exact hW
  · have hall' : left (Array.replicate ops.size false) pre = pre := List.filter_eq_self.2 fun p hp => by
      simp [Array.getD, (hk2' p (List.mem_append_left _ hp)).2]
    refine .inl ⟨by rw [hall']; exact h, hC, fun i hi => ?_, ?_⟩
    · simp [Array.getD] at hi
    · simp [Array.getD]
/-- y comes now. -/
theorem mixYe {y : Nat} {post : List (Nat × Nat)} {a : Act} {w : World} {o : Oper} (ho : ops[y]? = some o)
    (h : ∀ K : Act → World → Prop, (∀ a w, C w → wpMix P ops C Q post a w → K a w) → if Region.wanted o (yielded ops a.tmps) = true then Acted P (fun v w' => K (a.put o.dst v) w') ((execOp a.eval o).run P w) else K (a.put o.dst undef) w) : wpY P ops C Q y post [] a w := by
  have h1 := h (fun a w => C w ∧ wpMix P ops C Q post a w) (fun _ _ hc h => ⟨hc, h⟩)
  refine ⟨o, ho, ?_⟩
  unfold ActW
  exact h1
theorem mixY0 {y i : Nat} {post l : List (Nat × Nat)} {a : Act} {w : World} {o : Oper} (ho : ops[i]? = some o)
    (h : ∀ K : Act → Prop, (∀ a, wpY P ops C Q y post l a w → K a) → if Region.wanted o (yielded ops a.tmps) = true then (∃ v, (∀ u, C u → (execOp a.eval o).run P u = .ok (.value v) u) ∧ K (a.put o.dst v)) else K (a.put o.dst undef)) : wpY P ops C Q y post ((i, 0) :: l) a w := by
  have h1 := h (fun a => wpY P ops C Q y post l a w) (fun _ h => h)
  split at h1
  · rename_i hw
    obtain ⟨v, hv, hn⟩ := h1
    exact ⟨o, v, ho, .inl ⟨hw, hv⟩, hn⟩
  · rename_i hw
    exact ⟨o, undef, ho, .inr ⟨by simpa using hw, rfl⟩, h1⟩
theorem mixY1 {y i : Nat} {post l : List (Nat × Nat)} {a : Act} {w : World} {o oy : Oper} (ho : ops[i]? = some o) (hoy : ops[y]? = some oy)
    (hy : ∀ K : Act → World → Prop, (∀ a w, C w → wpMix P ops C Q ((i, 1) :: (l ++ post)) a w → K a w) → if Region.wanted oy (yielded ops a.tmps) = true then Acted P (fun v w' => K (a.put oy.dst v) w') ((execOp a.eval oy).run P w) else K (a.put oy.dst undef) w)
    (h : ∀ K : Act → World → Prop, (∀ a w, C w → wpY P ops C Q y post l a w → K a w) → if Region.wanted o (yielded ops a.tmps) = true then Acted P (fun v w' => K (a.put o.dst v) w') ((execOp a.eval o).run P w) else K (a.put o.dst undef) w) : wpY P ops C Q y post ((i, 1) :: l) a w := by
  have h1 := h (fun a w => C w ∧ wpY P ops C Q y post l a w) (fun _ _ hc h => ⟨hc, h⟩)
  have h2 := hy (fun a w => C w ∧ wpMix P ops C Q ((i, 1) :: (l ++ post)) a w) (fun _ _ hc h => ⟨hc, h⟩)
  refine ⟨⟨oy, hoy, ?_⟩, o, ho, ?_⟩
  · unfold ActW
    exact h2
  · unfold ActW
    exact h1
end
end Go.Proofs.YtnoidhfhnaemgaaDoor
