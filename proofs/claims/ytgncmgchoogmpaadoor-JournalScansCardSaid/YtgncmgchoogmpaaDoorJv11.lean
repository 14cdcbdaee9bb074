/- PLAIN: what a change put into a row leaves; records that are found, and not. -/
import Derived.Test.YtgncmgchoogmpaaDoorJu11
namespace Go.Proofs.YtgncmgchoogmpaaDoor
open Go.RowKit

def okC (c : Ch) : Prop := 0 ≤ c.1 ∧ c.1 < 65536 ∧ c.2.length = 512
theorem rowFrom_iff : ∀ (l : List Ch) (a : Int), rowFrom a l = true ↔ (∀ c ∈ l, a < c.1 ∧ c.1 < 65536 ∧ c.2.length = 512) ∧ l.Pairwise (fun x y => x.1 < y.1)
  | [], _ => by simp [rowFrom]
  | x :: l, a => by
    rw [rowFrom]
    simp only [Bool.and_eq_true, decide_eq_true_eq, List.mem_cons, forall_eq_or_imp, List.pairwise_cons]
    rw [rowFrom_iff l x.1]
    constructor
    · rintro ⟨h1, h2, h3, h4, h5⟩
      exact ⟨⟨⟨h1, h2, h3⟩, fun c hc => ⟨by have := (h4 c hc).1; omega, (h4 c hc).2⟩⟩, fun c hc => (h4 c hc).1, h5⟩
    · rintro ⟨⟨⟨h1, h2, h3⟩, h4⟩, h5, h6⟩
      exact ⟨h1, h2, h3, fun c hc => ⟨h5 c hc, (h4 c hc).2⟩, h6⟩
theorem rowB_iff (l : List Ch) : rowB l = true ↔ (∀ c ∈ l, okC c) ∧ l.Pairwise (fun x y => x.1 < y.1) := by
  rw [rowB, rowFrom_iff]
  constructor
  · rintro ⟨h1, h2⟩
    exact ⟨fun c hc => ⟨by have := (h1 c hc).1; omega, (h1 c hc).2⟩, h2⟩
  · rintro ⟨h1, h2⟩
    exact ⟨fun c hc => ⟨by have := (h1 c hc).1; omega, (h1 c hc).2⟩, h2⟩
/-- Put splits a row: what is ahead is less, what is behind is more; of the row nothing is gone but what had that sector. -/
theorem putV_split {l : List Ch} (h : l.Pairwise (fun x y => x.1 < y.1)) (c : Ch) :
    ∃ a b, putV l c = a ++ c :: b ∧ (∀ x ∈ a, x.1 < c.1) ∧ (∀ x ∈ b, c.1 < x.1) ∧ a.Pairwise (fun x y => x.1 < y.1) ∧ b.Pairwise (fun x y => x.1 < y.1) ∧ ((l = a ++ b) ∨ ∃ y, y.1 = c.1 ∧ l = a ++ y :: b) := by
  by_cases he : eqAt l c.1 < l.length
  · obtain ⟨i, hi⟩ : ∃ i, eqAt l c.1 = i := ⟨_, rfl⟩
    rw [hi] at he
    have hx : l[i].1 = c.1 := by
      have := List.findIdx_getElem (xs := l) (p := fun x => x.1 == c.1) (w := by rw [show l.findIdx (fun x => x.1 == c.1) = i from hi]; exact he)
      have e : l.findIdx (fun x => x.1 == c.1) = i := hi
      simp only [e] at this
      simpa using this
    have hl : l = l.take i ++ l[i] :: l.drop (i + 1) := by rw [← List.drop_eq_getElem_cons he, List.take_append_drop]
    have hp := h
    rw [hl, List.pairwise_append, List.pairwise_cons] at hp
    obtain ⟨p1, ⟨p2, p3⟩, p4⟩ := hp
    refine ⟨l.take i, l.drop (i + 1), putV_eq hi he, fun x hxm => ?_, fun x hxm => ?_, p1, p3, .inr ⟨l[i], hx, hl⟩⟩
    · have := p4 x hxm l[i] List.mem_cons_self
      omega
    · have := p2 x hxm
      omega
  · have hel : eqAt l c.1 = l.length := by have : eqAt l c.1 ≤ l.length := List.findIdx_le_length; omega
    have hne : ∀ x ∈ l, x.1 ≠ c.1 := fun x hx => by
      have := List.findIdx_eq_length.1 hel x hx
      simpa using this
    obtain ⟨i, hi⟩ : ∃ i, gtAt l c.1 = i := ⟨_, rfl⟩
    have hil : i ≤ l.length := by rw [← hi]; exact gtAt_le l c.1
    have hl : l = l.take i ++ l.drop i := (List.take_append_drop i l).symm
    have hp := h
    rw [hl, List.pairwise_append] at hp
    obtain ⟨p1, p3, p4⟩ := hp
    refine ⟨l.take i, l.drop i, putV_gt hel hi, fun x hxm => ?_, fun x hxm => ?_, p1, p3, .inl hl⟩
    · obtain ⟨j, hj, rfl⟩ := List.getElem_of_mem hxm
      have hj' : j < i := by simp at hj; omega
      have := List.not_of_lt_findIdx (p := fun x => decide (c.1 < x.1)) (xs := l) (i := j) (by rw [show l.findIdx (fun x => decide (c.1 < x.1)) = i from hi]; exact hj')
      have h2 := hne _ (List.mem_of_mem_take hxm)
      have e : (l.take i)[j] = l[j]'(by omega) := by simp
      rw [e] at h2 ⊢
      have h3 : ¬ c.1 < (l[j]'(by omega)).1 := by simpa using this
      omega
    · by_cases hlt : i < l.length
      · have h0 : c.1 < l[i].1 := by
          have := List.findIdx_getElem (xs := l) (p := fun x => decide (c.1 < x.1)) (w := by rw [show l.findIdx (fun x => decide (c.1 < x.1)) = i from hi]; exact hlt)
          have e : l.findIdx (fun x => decide (c.1 < x.1)) = i := hi
          simp only [e] at this
          simpa using this
        rw [List.drop_eq_getElem_cons hlt] at hxm p3
        rcases List.mem_cons.1 hxm with rfl | hxm
        · exact h0
        · have := (List.pairwise_cons.1 p3).1 x hxm
          omega
      · rw [List.drop_of_length_le (by omega)] at hxm
        simp at hxm
theorem putV_row {l : List Ch} (h : rowB l = true) {c : Ch} (hc : okC c) : rowB (putV l c) = true := by
  rw [rowB_iff] at h ⊢
  obtain ⟨a, b, e, h1, h2, h3, h4, h5⟩ := putV_split h.2 c
  rw [e]
  have sub : ∀ x, x ∈ a ∨ x ∈ b → x ∈ l := fun x hx => by
    rcases h5 with rfl | ⟨y, _, rfl⟩
    · exact List.mem_append.2 hx
    · rcases hx with hx | hx
      · exact List.mem_append.2 (.inl hx)
      · exact List.mem_append.2 (.inr (List.mem_cons_of_mem _ hx))
  refine ⟨fun x hx => ?_, ?_⟩
  · rcases List.mem_append.1 hx with hx | hx
    · exact h.1 x (sub x (.inl hx))
    · rcases List.mem_cons.1 hx with rfl | hx
      · exact hc
      · exact h.1 x (sub x (.inr hx))
  · rw [List.pairwise_append, List.pairwise_cons]
    refine ⟨h3, ⟨h2, h4⟩, fun x hx y hy => ?_⟩
    rcases List.mem_cons.1 hy with rfl | hy
    · exact h1 x hx
    · have := h1 x hx
      have := h2 y hy
      omega
end Go.Proofs.YtgncmgchoogmpaaDoor
