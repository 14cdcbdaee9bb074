/- A region that draws its order, in which two operations that act may come one ahead of the other, or the other way round (a call and a new variable): two walks, one for each. -/
import Derived.Test.YthdkoigiabmpaaaMix
namespace Go.Proofs.Ythdkoigiabmpaaa
open Go.RowKit

section
variable {P : Program} {ops : Array Oper} {C : World → Prop} {Q : Exit → Act → World → Prop}

def pairB2 (ops : Array Oper) (ms : List Nat) (x y : Nat) (p q : Nat × Nat) : Bool := (p.1 == x && (q.1 == y || (ms.getD q.1 0).testBit y) && q.1 != x) || pairB ops ms p q
def pairsB2 (ops : Array Oper) (ms : List Nat) (x y : Nat) : List (Nat × Nat) → Bool
  | [] => true
  | p :: l => l.all (pairB2 ops ms x y p) && pairsB2 ops ms x y l
def mixB2 (ops : Array Oper) (ord : List (Nat × Nat)) (x y : Nat) : Bool :=
  noSelB ops && (backB' .any ops && ((List.range ops.size).all (fun i => ord.any fun p => p.1 == i) && (ord.all (fun p => Nat.ble p.2 1 && Nat.blt p.1 ops.size) && (pairsB2 ops (masks .any ops.toList []) x y ord && (x != y && (Nat.blt x ops.size && Nat.blt y ops.size))))))
def kindsB (ops : Array Oper) (ordA ordB : List (Nat × Nat)) (x y : Nat) : Bool :=
  ordA.all fun p => ordB.any (fun q => q.1 == p.1 && q.2 == p.2) && (p.2 == 0 || p.1 == x || p.1 == y || (((masks .any ops.toList []).getD p.1 0).testBit x))
theorem pairs_split2 {ms : List Nat} {x y : Nat} {q : Nat × Nat} {post : List (Nat × Nat)} : ∀ {pre : List (Nat × Nat)}, pairsB2 ops ms x y (pre ++ q :: post) = true → (∀ p ∈ pre, pairB2 ops ms x y p q = true) ∧ (∀ p ∈ post, pairB2 ops ms x y q p = true)
  | [], h => by
    simp only [List.nil_append, pairsB2, Bool.and_eq_true, List.all_eq_true] at h
    exact ⟨fun p hp => (by cases hp), h.1⟩
  | z :: pre, h => by
    simp only [List.cons_append, pairsB2, Bool.and_eq_true, List.all_eq_true] at h
    obtain ⟨h1, h2⟩ := pairs_split2 h.2
    refine ⟨fun p hp => ?_, h2⟩
    rcases List.mem_cons.1 hp with rfl | hp
    · exact h.1 q (by simp)
    · exact h1 p hp
structure Chk2 (ops : Array Oper) (ord : List (Nat × Nat)) (x y : Nat) : Prop where
  sel : noSelB ops = true
  back : backB' .any ops = true
  all : ∀ i, i < ops.size → ∃ k, (i, k) ∈ ord
  small : ∀ p ∈ ord, p.2 ≤ 1 ∧ p.1 < ops.size
  prs : pairsB2 ops (masks .any ops.toList []) x y ord = true
  ne : x ≠ y
  xs : x < ops.size
  ys : y < ops.size
theorem chk2 {ord : List (Nat × Nat)} {x y : Nat} (h : mixB2 ops ord x y = true) : Chk2 ops ord x y := by
  simp only [mixB2, Bool.and_eq_true] at h
  obtain ⟨h1, h2, h3, h4, h5, h6, h7, h8⟩ := h
  refine ⟨h1, h2, fun i hi => ?_, fun p hp => ?_, h5, by simpa using h6, Nat.le_of_ble_eq_true h7, Nat.le_of_ble_eq_true h8⟩
  · have := List.all_eq_true.1 h3 i (List.mem_range.2 hi)
    rw [List.any_eq_true] at this
    obtain ⟨⟨i', k⟩, hm, he⟩ := this
    obtain rfl : i' = i := by simpa using he
    exact ⟨k, hm⟩
  · have := List.all_eq_true.1 h4 p hp
    simp only [Bool.and_eq_true] at this
    exact ⟨Nat.le_of_ble_eq_true this.1, Nat.le_of_ble_eq_true this.2⟩
theorem step2 {ord : List (Nat × Nat)} {x y : Nat} (hc : Chk2 ops ord x y) {L : Array Bool} {a : Act} {w : World} {i k : Nat} {o : Oper} (hL : L.size = ops.size) (h1 : L.getD i true = false) (ho : ops[i]? = some o)
    (hdep : ∀ e ∈ o.after, Region.binds .any e = true → L.getD e.on false = true) (hM : Mixed P ops .any C Q ord L a w) (hfree : i = y ∨ L.getD y false = true → L.getD x false = true) (hmem : (i, k) ∈ ord) :
    (k = 0 → C w ∧ ∃ v, Yld P ops C o v a ∧ Mixed P ops .any C Q ord (L.setIfInBounds i true) (a.put o.dst v) w) ∧
    (k = 1 → ActW P ops o a w (fun v w' => Mixed P ops .any C Q ord (L.setIfInBounds i true) (a.put o.dst v) w')) := by
  have hilt : i < ops.size := (Array.getElem?_eq_some_iff.1 ho).1
  have hiL : i < L.size := by omega
  have hi0 : L.getD i false = false := by simpa [Array.getD, hiL] using h1
  obtain ⟨pre, post, hord⟩ := List.append_of_mem hmem
  have hsp := pairs_split2 (hord ▸ hc.prs)
  have hne1 : ∀ p ∈ pre, p.1 ≠ i := fun p hp e => by
    have := hsp.1 p hp
    simp only [pairB2, pairB, e, bne_self_eq_false, Bool.false_and, Bool.or_false, Bool.and_eq_true, beq_iff_eq, bne_iff_ne] at this
    exact this.2 this.1.1
  have hne2 : ∀ p ∈ post, p.1 ≠ i := fun p hp e => by
    have := hsp.2 p hp
    simp only [pairB2, pairB, e, bne_self_eq_false, Bool.false_and, Bool.or_false, Bool.and_eq_true, beq_iff_eq, bne_iff_ne] at this
    exact this.2 this.1.1
  have hsound : Sound ops .any (fun j => L.getD j false = true) (masks .any ops.toList []) :=
    masks_sound hM.deps ops.toList [] (fun k o hk => by simpa using hk) (fun i o _ _ j hj => by simp at hj)
  have hq : ∀ p ∈ left L pre, p.2 = 0 ∧ ∀ oj, ops[p.1]? = some oj → oj.apart ops o = true := by
    intro p hp
    obtain ⟨hp1, hp2⟩ := List.mem_filter.1 hp
    have hb0 := hsp.1 p hp1
    have hb : pairB ops (masks .any ops.toList []) p (i, k) = true := by
      rcases (Bool.or_eq_true _ _).mp hb0 with h | h
      · simp only [Bool.and_eq_true, beq_iff_eq, Bool.or_eq_true] at h
        have hy : i = y ∨ L.getD y false = true := h.1.2.imp id (fun hb => hsound i o ho hdep y hb)
        have := hfree hy
        rw [h.1.1, this] at hp2
        cases hp2
      · exact h
    have hnd : ((masks .any ops.toList []).getD i 0).testBit p.1 = false := by
      cases hc : ((masks .any ops.toList []).getD i 0).testBit p.1 with
      | false => rfl
      | true =>
        have := hsound i o ho hdep p.1 hc
        simp only [this] at hp2
        cases hp2
    simp only [pairB, hnd, Bool.false_or, Bool.and_eq_true, beq_iff_eq, bne_iff_ne] at hb
    refine ⟨hb.1.2.1.1, fun oj hoj => ?_⟩
    have := hb.1.2.2
    rw [hoj, ho] at this
    exact this
  have hleft : left L ord = left L pre ++ (i, k) :: left L post := by
    rw [hord]
    unfold left
    rw [List.filter_append, List.filter_cons, hi0]
    rfl
  have hset : left (L.setIfInBounds i true) ord = left L pre ++ left L post := by
    rw [hord]; exact left_set hiL hne1 hne2
  have hdeps : ∀ j, (L.setIfInBounds i true).getD j false = true → ∃ oj, ops[j]? = some oj ∧ ∀ e ∈ oj.after, Region.binds .any e = true → (L.setIfInBounds i true).getD e.on false = true := by
    intro j hj
    rw [getD_set' _ _ _ hiL] at hj
    split at hj
    · rename_i e
      subst e
      exact ⟨o, ho, fun e he hb => by rw [getD_set' _ _ _ hiL, hdep e he hb]; split <;> rfl⟩
    · obtain ⟨oj, hoj, hd⟩ := hM.deps j hj
      exact ⟨oj, hoj, fun e he hb => by rw [getD_set' _ _ _ hiL, hd e he hb]; split <;> rfl⟩
  have hW := hM.walk
  rw [hleft] at hW
  refine ⟨?_, ?_⟩
  · rintro rfl
    obtain ⟨v, hy, hn⟩ := pull0 hc.sel ho (left L post) (left L pre) a w hq hW
    have hCw : C w := hM.held ⟨(i, 0), by rw [hleft]; simp, rfl⟩
    exact ⟨hCw, v, hy, by rw [hset]; exact hn, fun _ => hCw, hdeps⟩
  · rintro rfl
    have hA := pull1 hc.sel ho (left L post) (left L pre) a w hq hW
    exact hA.mono fun v w' ⟨hc', hn⟩ => ⟨by rw [hset]; exact hn, fun _ => hc' rfl, hdeps⟩
theorem wpOp_yld {i : Nat} {o : Oper} {a : Act} {w : World} {v : Value} {K : Act → World → Prop} (ho : ops[i]? = some o) (hC : C w) (hy : Yld P ops C o v a) (hk : K (a.put o.dst v) w) : wpOp P ops Q i K a w := by
  unfold wpOp
  simp only [ho]
  rcases hy with ⟨hw, hrun⟩ | ⟨hw, rfl⟩
  · rw [if_pos hw]
    refine .inl ?_
    unfold Oper.wp
    rw [hrun w hC]
    exact hk
  · rw [if_neg (by rw [hw]; simp)]
    exact hk
theorem wpOp_act {i : Nat} {o : Oper} {a : Act} {w : World} {K : Act → World → Prop} (ho : ops[i]? = some o) (hA : ActW P ops o a w (fun v w' => K (a.put o.dst v) w')) : wpOp P ops Q i K a w := by
  unfold wpOp
  simp only [ho]
  unfold ActW at hA
  split at hA
  · rename_i hw
    rw [if_pos hw]
    refine .inl ?_
    unfold Oper.wp
    generalize (execOp a.eval o).run P w = r at hA
    cases r with
    | ok n w' =>
      cases n <;> simp only [Acted] at hA <;> simp only [Oper.upon]
      case value v => exact hA
      case skip => exact hA
      case enter f args =>
        refine hA.mono ?_
        rintro e w'' ⟨v, rfl, hk⟩
        exact hk
    | halt x w' => simp only [Acted] at hA
  · rename_i hw
    rw [if_neg hw]
    exact hA
theorem yld_one {o : Oper} {a : Act} {w : World} {v v' : Value} (hC : C w) (h : Yld P ops C o v a) (h' : Yld P ops C o v' a) : v = v' := by
  rcases h with ⟨hw, hr⟩ | ⟨hw, rfl⟩ <;> rcases h' with ⟨hw', hr'⟩ | ⟨hw', rfl⟩
  · have := (hr w hC).symm.trans (hr' w hC)
    injection this with this
    injection this
  · rw [hw] at hw'; cases hw'
  · rw [hw] at hw'; cases hw'
  · rfl
/-- **Two operations that act, in whatever order**: two walks serve. -/
theorem wp_region_mix2 {id : Nat} {a : Act} {w : World} (hm : P.follows .mixedOrders = true) (C : World → Prop) (x y : Nat) (ordA ordB : List (Nat × Nat)) (hA : mixB2 ops ordA x y = true) (hB : mixB2 ops ordB y x = true) (hkk : kindsB ops ordA ordB x y = true) (hC : C w.drew)
    (hwA : wpMix P ops C Q ordA a w.drew) (hwB : wpMix P ops C Q ordB a w.drew) : (Code.region id ops true).wp P Q a w := by
  have cA := chk2 hA
  have cB := chk2 hB
  have key : ∀ (ord : List (Nat × Nat)) (x y : Nat), Chk2 ops ord x y → ∀ L a w i, L.size = ops.size → i ∈ Region.ready .any ops L → Mixed P ops .any C Q ord L a w → (i = y ∨ L.getD y false = true → L.getD x false = true) → ∀ z, (L.setIfInBounds i true).getD z false = true →
      wpOp P ops Q i (fun a' w' => (L.setIfInBounds i true).getD z false = true ∧ Mixed P ops .any C Q ord (L.setIfInBounds i true) a' w') a w := by
    intro ord x y hc L a w i hL hi hM hf z hz
    obtain ⟨h1, o, ho, hdep⟩ := mem_ready.1 hi
    obtain ⟨k, hmem⟩ := hc.all i (Array.getElem?_eq_some_iff.1 ho).1
    obtain ⟨s0, s1⟩ := step2 hc hL h1 ho hdep hM hf hmem
    have hk := (hc.small _ hmem).1
    match k, hk, s0, s1 with
    | 0, _, s0, _ =>
      obtain ⟨hCw, v, hy, hn⟩ := s0 rfl
      exact wpOp_yld ho hCw hy ⟨hz, hn⟩
    | 1, _, _, s1 => exact wpOp_act ho ((s1 rfl).mono fun v w' h => ⟨hz, h⟩)
  refine wp_region_any hm ?_
  refine mixAny_inv (fun L a w => (L.getD x false = true ∧ Mixed P ops .any C Q ordA L a w) ∨ (L.getD y false = true ∧ Mixed P ops .any C Q ordB L a w) ∨ (L.getD x false = false ∧ L.getD y false = false ∧ Mixed P ops .any C Q ordA L a w ∧ Mixed P ops .any C Q ordB L a w)) ?_ ?_ _ _ _ _ (by simp) (by simp) ?_
  · intro L a w i hL hi hI
    obtain ⟨h1, o, ho, hdep⟩ := mem_ready.1 hi
    have hilt : i < ops.size := (Array.getElem?_eq_some_iff.1 ho).1
    have hiL : i < L.size := by omega
    have keep : ∀ z, L.getD z false = true → (L.setIfInBounds i true).getD z false = true := fun z hz => by
      rw [getD_set' _ _ _ hiL]; split
      · rfl
      · exact hz
    have self : (L.setIfInBounds i true).getD i false = true := by rw [getD_set' _ _ _ hiL, if_pos rfl]
    rcases hI with ⟨hx, hM⟩ | ⟨hy, hM⟩ | ⟨hx, hy, hMA, hMB⟩
    · exact wpOp_mono (fun a' w' h => .inl h) (key ordA x y cA L a w i hL hi hM (fun _ => hx) x (keep x hx))
    · exact wpOp_mono (fun a' w' h => .inr (.inl h)) (key ordB y x cB L a w i hL hi hM (fun _ => hy) y (keep y hy))
    · by_cases ex : i = x
      · subst ex
        exact wpOp_mono (fun a' w' h => .inl h) (key ordA i y cA L a w i hL hi hMA (fun e => e.elim (fun e => absurd e cA.ne) (fun e => by rw [hy] at e; cases e)) i self)
      · by_cases ey : i = y
        · subst ey
          exact wpOp_mono (fun a' w' h => .inr (.inl h)) (key ordB i x cB L a w i hL hi hMB (fun e => e.elim (fun e => absurd e.symm cA.ne) (fun e => by rw [hx] at e; cases e)) i self)
        · obtain ⟨k, hmem⟩ := cA.all i hilt
          have hkd := List.all_eq_true.1 hkk _ hmem
          rw [Bool.and_eq_true] at hkd
          obtain ⟨hin, hor⟩ := hkd
          have hmemB : (i, k) ∈ ordB := by
            rw [List.any_eq_true] at hin
            obtain ⟨⟨i2, k2⟩, hq, he⟩ := hin
            simp only [Bool.and_eq_true, beq_iff_eq] at he
            rw [← he.1, ← he.2]
            exact hq
          have hsound : Sound ops .any (fun j => L.getD j false = true) (masks .any ops.toList []) :=
            masks_sound hMA.deps ops.toList [] (fun k o hk => by simpa using hk) (fun i o _ _ j hj => by simp at hj)
          have hk0 : k = 0 := by
            simp only [Bool.or_eq_true, beq_iff_eq] at hor
            rcases hor with ((h | h) | h) | h
            · exact h
            · exact absurd h ex
            · exact absurd h ey
            · have : L.getD x false = true := hsound i o ho hdep x h
              rw [hx] at this
              cases this
          obtain ⟨hCw, v, hyA, hnA⟩ := (step2 cA hL h1 ho hdep hMA (fun e => e.elim (fun e => absurd e ey) (fun e => by rw [hy] at e; cases e)) hmem).1 hk0
          obtain ⟨_, v', hyB, hnB⟩ := (step2 cB hL h1 ho hdep hMB (fun e => e.elim (fun e => absurd e ex) (fun e => by rw [hx] at e; cases e)) hmemB).1 hk0
          obtain rfl := yld_one hCw hyA hyB
          refine wpOp_yld ho hCw hyA (.inr (.inr ⟨?_, ?_, hnA, hnB⟩))
          · rw [getD_set' _ _ _ hiL, if_neg ex]; exact hx
          · rw [getD_set' _ _ _ hiL, if_neg ey]; exact hy
  · intro L a w hL hr hI
    have hdone := all_listed' cA.back hL hr
    have fin : ∀ (ord : List (Nat × Nat)) (x y : Nat), Chk2 ops ord x y → Mixed P ops .any C Q ord L a w → Q .normal a w := by
      intro ord x y hc hM
      have hnil : left L ord = [] := by
        rw [List.eq_nil_iff_forall_not_mem]
        intro p hp
        obtain ⟨hp1, hp2⟩ := List.mem_filter.1 hp
        rw [hdone p.1 (hc.small p hp1).2] at hp2
        cases hp2
      have hW := hM.walk
      rw [hnil] at hW
      exact hW
    rcases hI with ⟨_, hM⟩ | ⟨_, hM⟩ | ⟨hx, _⟩
    · exact fin ordA x y cA hM
    · exact fin ordB y x cB hM
    · rw [hdone x cA.xs] at hx
      cases hx
  · have hall' : ∀ (ord : List (Nat × Nat)) (x y : Nat), Chk2 ops ord x y → left (Array.replicate ops.size false) ord = ord := fun ord x y hc => List.filter_eq_self.2 fun p hp => by
      simp [Array.getD, (hc.small p hp).2]
    have start : ∀ (ord : List (Nat × Nat)) (x y : Nat), Chk2 ops ord x y → wpMix P ops C Q ord a w.drew → Mixed P ops .any C Q ord (Array.replicate ops.size false) a w.drew := fun ord x y hc h =>
      ⟨by rw [hall' ord x y hc]; exact h, fun _ => hC, fun i hi => by simp [Array.getD] at hi⟩
    exact .inr (.inr ⟨by simp [Array.getD], by simp [Array.getD], start ordA x y cA hwA, start ordB y x cB hwB⟩)
end
end Go.Proofs.Ythdkoigiabmpaaa
