/- PLAIN: once all that are called have dropped, the first one that waits is served. -/
import Derived.Test.YtbeoigkjlgimdaaPl9
namespace Go.Proofs.Ytbeoigkjlgimdaa
open Go.RowKit

theorem filter_ins {p : Cl → Bool} {c : Cl} (hp : p c = false) (l : List Cl) (i : Nat) : (insC l i c).filter p = l.filter p := by
  unfold insC
  rw [List.filter_append, List.filter_append]
  have : [c].filter p = [] := by simp [hp]
  rw [this, List.append_nil, ← List.filter_append, List.take_append_drop]
theorem filter_give {p : Cl → Bool} {c : Cl} (hp : p c = false) (h : List Cl) : (giveM h c).filter p = (delM h c.1).filter p := by
  unfold giveM
  split
  · rfl
  · exact filter_ins hp _ _
theorem filter_del (p : Cl → Bool) (h : List Cl) (z : Int) : (delM h z).filter p = delM (h.filter p) z := by
  unfold delM outC
  rw [List.filter_filter, List.filter_filter]
  congr 1
  funext c
  exact Bool.and_comm _ _
theorem rest_fits {m : Int} (h : m = 1 ∨ m = 2) : fitB (restM m) m = true ∧ modeB (restM m) = true ∧ restM m < 2 := by
  rcases h with rfl | rfl <;> decide
theorem cq_iff {x c : Cl} : cQ x c = true ↔ c.1 ≠ x.1 ∧ fitB c.2 x.2 = false := by simp [cQ]
theorem not_fits {h : List Cl} {x : Cl} (ho : ∀ c ∈ h, okC c) (hx : x.2 = 1 ∨ x.2 = 2) : fitsM h x = false ↔ h.filter (cQ x) ≠ [] := by
  constructor
  · intro hf he
    have : fitsM h x = true := (fits_iff ho hx).2 fun c hc hne => by
      cases hq : fitB x.2 c.2 with
      | true => rfl
      | false =>
        have : c ∈ h.filter (cQ x) := List.mem_filter.2 ⟨hc, cq_iff.2 ⟨hne, by rw [fit_comm]; exact hq⟩⟩
        rw [he] at this
        cases this
    rw [hf] at this
    cases this
  · intro hne
    cases hf : fitsM h x with
    | false => rfl
    | true =>
      exfalso
      obtain ⟨c, l, e⟩ : ∃ c l, h.filter (cQ x) = c :: l := by
        cases hq : h.filter (cQ x) with
        | nil => exact absurd hq hne
        | cons c l => exact ⟨c, l, rfl⟩
      have hc : c ∈ h.filter (cQ x) := by rw [e]; simp
      obtain ⟨h1, h2⟩ := List.mem_filter.1 hc
      have h3 := cq_iff.1 h2
      have := (fits_iff ho hx).1 hf c h1 h3.1
      rw [fit_comm, h3.2] at this
      cases this
/-- All that are told drop, one after the other. -/
def dropAll (h ws : List Cl) : List Cl → List Cl × List Cl
  | [] => (h, ws)
  | c :: l => dropAll (newH .drop h ws c.1 c.2) (newW .drop h ws c.1 c.2) l
theorem dropAll_snoc : ∀ (l : List Cl) (h ws : List Cl) (c : Cl), dropAll h ws (l ++ [c]) = (newH .drop (dropAll h ws l).1 (dropAll h ws l).2 c.1 c.2, newW .drop (dropAll h ws l).1 (dropAll h ws l).2 c.1 c.2)
  | [], _, _, _ => rfl
  | _ :: l, _, _, c => dropAll_snoc l _ _ c
theorem dropAll_ok : ∀ (l : List Cl) {h ws : List Cl}, OkQ h ws → OkQ (dropAll h ws l).1 (dropAll h ws l).2
  | [], _, _, x => x
  | d :: l, _, _, x => dropAll_ok l (new_ok .drop x d.1 d.2)
theorem ends_turn (x : Cl) (t : List Cl) : ∀ (l h : List Cl), OkQ h (x :: t) → h.filter (cQ x) = l → l ≠ [] →
    modeM (dropAll h (x :: t) (l.map (cR x))).1 x.1 = x.2 ∧ (dropAll h (x :: t) (l.map (cR x))).2.length ≤ t.length
  | [], _, _, _, hne => absurd rfl hne
  | c :: l, h, ok, he, _ => by
    have hx := ok.waits x (by simp)
    have hc : c ∈ h.filter (cQ x) := by rw [he]; simp
    obtain ⟨hm, hq⟩ := List.mem_filter.1 hc
    have hq2 := cq_iff.1 hq
    have hok := ok.has c hm
    have hrest := rest_fits hx.2.2
    have hmode : modeM h c.1 = c.2 := mode_mem (Ris.dis ok.rising) hm
    have hth : thereB c.1 = true := by simp [thereB, hok.1, hok.2.1]
    have hcr : c.2 ≠ restM x.2 := fun e => by rw [e, hrest.1] at hq2; cases hq2.2
    have hle : restM x.2 ≤ c.2 := by
      rcases hok.2.2 with e | e
      · have h1 : restM x.2 ≠ 1 := fun e2 => hcr (by rw [e, e2])
        rcases mode_three' hrest.2.1 with e3 | e3 | e3 <;> omega
      · omega
    have hd : dropM h c.1 (restM x.2) = giveM h (c.1, restM x.2) := by
      rw [dropM, hmode, if_pos ⟨hcr, cov_le.2 ⟨okm hok.2.2, hrest.2.1, hle⟩⟩]
    have hpre : PreQ (dropM h c.1 (restM x.2)) (x :: t) := do_pre .drop ok hth (restM x.2)
    have hfl : (dropM h c.1 (restM x.2)).filter (cQ x) = l := by
      have hno : cQ x (c.1, restM x.2) = false := by
        cases hb : cQ x (c.1, restM x.2) with
        | false => rfl
        | true =>
          have := (cq_iff.1 hb).2
          rw [hrest.1] at this
          cases this
      rw [hd, filter_give hno, filter_del, he]
      have hdis : Dis (c :: l) := by rw [← he]; exact (Ris.dis ok.rising).sublist List.filter_sublist
      unfold delM outC
      rw [List.filter_cons]
      have h1 : outQ (ofQ c.1) c = false := by simp [outQ, ofQ]
      rw [h1]
      simp only [Bool.false_eq_true, if_false]
      refine List.filter_eq_self.2 fun y hy => ?_
      have := (List.pairwise_cons.1 hdis).1 y hy
      simp only [outQ, ofQ, Bool.not_eq_true', beq_eq_false_iff_ne]
      exact fun e => this e.symm
    have eH : newH .drop h (x :: t) c.1 (restM x.2) = givesM (dropM h c.1 (restM x.2)) (srv (dropM h c.1 (restM x.2)) (x :: t)) := by rw [newH, if_pos hth]; rfl
    have eW : newW .drop h (x :: t) c.1 (restM x.2) = (x :: t).drop (srv (dropM h c.1 (restM x.2)) (x :: t)).length := by rw [newW, if_pos hth]; rfl
    show modeM (dropAll (newH .drop h (x :: t) c.1 (restM x.2)) (newW .drop h (x :: t) c.1 (restM x.2)) (l.map (cR x))).1 x.1 = x.2 ∧ (dropAll (newH .drop h (x :: t) c.1 (restM x.2)) (newW .drop h (x :: t) c.1 (restM x.2)) (l.map (cR x))).2.length ≤ t.length
    have ok1 := new_ok .drop ok c.1 (restM x.2)
    cases l with
    | nil =>
      have hf : fitsM (dropM h c.1 (restM x.2)) x = true := by
        cases hb : fitsM (dropM h c.1 (restM x.2)) x with
        | true => rfl
        | false => exact absurd hfl ((not_fits hpre.has hx.2.2).1 hb)
      have es : srv (dropM h c.1 (restM x.2)) (x :: t) = x :: srv (giveM (dropM h c.1 (restM x.2)) x) t := by rw [srv, if_pos hf]
      refine ⟨?_, ?_⟩
      · show modeM (newH .drop h (x :: t) c.1 (restM x.2)) x.1 = x.2
        rw [eH, served hpre, es]
        have : (x :: srv (giveM (dropM h c.1 (restM x.2)) x) t).any (ofQ x.1) = true := by simp [ofQ]
        rw [if_pos this, mode_cons, if_pos rfl]
      · show (newW .drop h (x :: t) c.1 (restM x.2)).length ≤ t.length
        rw [eW, es]
        simp
    | cons d l =>
      have hf : fitsM (dropM h c.1 (restM x.2)) x = false := (not_fits hpre.has hx.2.2).2 (by rw [hfl]; simp)
      have es : srv (dropM h c.1 (restM x.2)) (x :: t) = [] := by rw [srv, hf]; rfl
      have e1 : newH .drop h (x :: t) c.1 (restM x.2) = dropM h c.1 (restM x.2) := by rw [eH, es]; rfl
      have e2 : newW .drop h (x :: t) c.1 (restM x.2) = x :: t := by rw [eW, es]; rfl
      rw [e1, e2] at ok1
      rw [e1, e2]
      exact ends_turn x t (d :: l) _ ok1 hfl (by simp)
/-- P9.4: once all that are called have dropped to what they were told, the first one that waits is served. -/
theorem turn_ends {h : List Cl} {x : Cl} {t : List Cl} (ok : OkQ h (x :: t)) :
    cM h x ≠ [] ∧ modeM (dropAll h (x :: t) (cM h x)).1 x.1 = x.2 ∧ (dropAll h (x :: t) (cM h x)).2.length ≤ t.length := by
  have hx := ok.waits x (by simp)
  have hne := (not_fits ok.has hx.2.2).1 (ok.front x rfl)
  refine ⟨fun e => hne (List.map_eq_nil_iff.1 e), ends_turn x t _ h ok rfl hne⟩
end Go.Proofs.Ytbeoigkjlgimdaa
