/- PLAIN: lists in order. -/
import Derived.Test.YtnoidhfhnaemgaaDoorFp15
import Derived.Test.YtnoidhfhnaemgaaDoorXb15
namespace Go.Proofs.YtnoidhfhnaemgaaDoor
open Go.RowKit

theorem bless_irrefl : ∀ a : List UInt8, Op.bytesLess a a = false
  | [] => rfl
  | x :: a => by
    have h : ¬ x < x := fun e => by have := UInt8.lt_iff_toNat_lt.1 e; omega
    simp [Op.bytesLess, bless_irrefl a, h]
theorem bless_trans : ∀ {a b c : List UInt8}, Op.bytesLess a b = true → Op.bytesLess b c = true → Op.bytesLess a c = true
  | _, [], _, h, _ => by simp [Op.bytesLess] at h
  | _, _ :: _, [], _, h => by simp [Op.bytesLess] at h
  | [], _ :: _, _ :: _, _, _ => by simp [Op.bytesLess]
  | x :: a, y :: b, z :: c, h, k => by
    simp only [Op.bytesLess, Bool.or_eq_true, decide_eq_true_eq, Bool.and_eq_true, beq_iff_eq] at h k ⊢
    rcases h with h | ⟨rfl, h⟩
    · rcases k with k | ⟨rfl, _⟩
      · exact .inl (UInt8.lt_iff_toNat_lt.2 (by have := UInt8.lt_iff_toNat_lt.1 h; have := UInt8.lt_iff_toNat_lt.1 k; omega))
      · exact .inl h
    · rcases k with k | ⟨rfl, k⟩
      · exact .inl k
      · exact .inr ⟨rfl, bless_trans h k⟩
theorem bless_asymm {a b : List UInt8} (h : Op.bytesLess a b = true) (k : Op.bytesLess b a = true) : False := by
  have := bless_trans h k
  rw [bless_irrefl] at this
  cases this
def OkN (e : Ent) : Prop := nameB e.1 = true ∧ 0 ≤ e.2 ∧ e.2 < 65536
structure RightP (l : List Ent) : Prop where
  ok : ∀ e ∈ l, OkN e
  up : l.Pairwise fun a b => Op.bytesLess a.1 b.1 = true
theorem RightP.right {l : List Ent} (h : RightP l) : rightN l = true := by
  rw [rightN_iff]
  intro j hj
  rw [wrongN_doc (List.getElem?_eq_getElem hj)]
  obtain ⟨h1, h2, h3⟩ := h.ok _ (List.getElem_mem hj)
  rw [h1, decide_eq_false (by omega), decide_eq_false (by omega)]
  cases j with
  | zero => rfl
  | succ k =>
    have h4 := List.pairwise_iff_getElem.1 h.up k (k + 1) (by omega) hj (by omega)
    rw [lastN_succ (List.getElem?_eq_getElem (by omega : k < l.length)), h4]
    simp
theorem RightP.nil : RightP [] := ⟨fun e he => (by cases he), List.Pairwise.nil⟩
/-- A new name is put at its place. -/
theorem put_in {l : List Ent} {e : Ent} (h : RightP l) (he : OkN e) (hn : ∀ x ∈ l, x.1 ≠ e.1) : RightP (l.take (behN l e.1) ++ [e] ++ l.drop (behN l e.1)) := by
  have hup := h.up
  rw [← List.take_append_drop (behN l e.1) l, List.pairwise_append] at hup
  obtain ⟨u1, u2, u3⟩ := hup
  have before : ∀ x ∈ l.take (behN l e.1), Op.bytesLess x.1 e.1 = true := fun x hx => by
    obtain ⟨i, hi, rfl⟩ := List.mem_take_iff_getElem.1 hx
    have hi2 : i < l.findIdx (gtN e.1) := by
      have : i < behN l e.1 := by omega
      exact this
    have h1 := List.not_of_lt_findIdx hi2
    have h5 : Op.bytesLess l[i].1 e.1 = false → l[i].1 = e.1 := by simpa [gtN, leB] using h1
    have h4 : Op.bytesLess l[i].1 e.1 = true ∨ l[i].1 = e.1 := by
      cases hb : Op.bytesLess l[i].1 e.1 with
      | true => exact .inl rfl
      | false => exact .inr (h5 hb)
    have h2 := hn _ (List.getElem_mem (show i < l.length by omega))
    rcases h4 with h3 | h3
    · exact h3
    · exact absurd h3 h2
  have behind : ∀ x ∈ l.drop (behN l e.1), Op.bytesLess e.1 x.1 = true := fun x hx => by
    obtain ⟨i, hi, rfl⟩ := List.mem_drop_iff_getElem.1 hx
    have hb : behN l e.1 < l.length := by omega
    have h1 : gtN e.1 l[behN l e.1] = true := List.findIdx_getElem (w := hb)
    have h2 : Op.bytesLess e.1 (l[behN l e.1]).1 = true := by
      have := bless_conv e.1 (l[behN l e.1]).1
      rw [gtN, leB, ← this] at h1
      simpa using h1
    rcases Nat.eq_zero_or_pos i with h0 | h0
    · subst h0; simpa using h2
    · exact bless_trans h2 (List.pairwise_iff_getElem.1 h.up (behN l e.1) (behN l e.1 + i) hb (by omega) (by omega))
  refine ⟨fun x hx => ?_, ?_⟩
  · rw [List.mem_append, List.mem_append] at hx
    rcases hx with (hx | hx) | hx
    · exact h.ok x (List.mem_of_mem_take hx)
    · rw [List.mem_singleton] at hx; rw [hx]; exact he
    · exact h.ok x (List.mem_of_mem_drop hx)
  · rw [List.append_assoc, List.pairwise_append]
    refine ⟨u1, ?_, fun a ha b hb => ?_⟩
    · rw [List.singleton_append, List.pairwise_cons]
      exact ⟨behind, u2⟩
    · rw [List.singleton_append, List.mem_cons] at hb
      rcases hb with rfl | hb
      · exact before a ha
      · exact u3 a ha b hb
theorem atN_no {l : List Ent} {s : List UInt8} (h : ∀ x ∈ l, x.1 ≠ s) : ¬ atN l s < l.length := by
  have : atN l s = l.length := List.findIdx_eq_length_of_false (fun x hx => by simpa [isN] using h x hx)
  omega
theorem atN_yes {l : List Ent} {s : List UInt8} {x : Ent} (hx : x ∈ l) (h : x.1 = s) : atN l s < l.length := List.findIdx_lt_length_of_exists ⟨x, hx, by simp [isN, h]⟩
theorem putN_new {l : List Ent} {e : Ent} (h : RightP l) (he : OkN e) (hn : ∀ x ∈ l, x.1 ≠ e.1) : RightP (putN l e) ∧ (putN l e).Perm (e :: l) := by
  rw [putN, if_neg (atN_no hn)]
  refine ⟨put_in h he hn, ?_⟩
  rw [List.append_assoc]
  show (l.take (behN l e.1) ++ e :: l.drop (behN l e.1)).Perm (e :: l)
  refine List.perm_middle.trans ?_
  rw [List.take_append_drop]
/-- Lists in order that have the same are one. -/
theorem same_order : ∀ {l m : List Ent}, RightP l → RightP m → l.Perm m → l = m
  | [], m, _, _, h => h.nil_eq.symm ▸ rfl
  | a :: l, [], _, _, h => by have := h.length_eq; simp at this
  | a :: l, b :: m, hl, hm, h => by
    have hl2 := List.pairwise_cons.1 hl.up
    have hm2 := List.pairwise_cons.1 hm.up
    have e : a = b := by
      have ha : a ∈ b :: m := h.mem_iff.1 (by simp)
      have hb : b ∈ a :: l := h.mem_iff.2 (by simp)
      rcases List.mem_cons.1 ha with h1 | h1
      · exact h1
      · rcases List.mem_cons.1 hb with h2 | h2
        · exact h2.symm
        · exact (bless_asymm (hl2.1 b h2) (hm2.1 a h1)).elim
    subst e
    rw [same_order ⟨fun x hx => hl.ok x (List.mem_cons_of_mem _ hx), hl2.2⟩ ⟨fun x hx => hm.ok x (List.mem_cons_of_mem _ hx), hm2.2⟩ h.cons_inv]
theorem size_perm {l m : List Ent} (h : l.Perm m) : sizeN l = sizeN m := by
  unfold sizeN
  exact (h.map _).sum_nat
end Go.Proofs.YtnoidhfhnaemgaaDoor
