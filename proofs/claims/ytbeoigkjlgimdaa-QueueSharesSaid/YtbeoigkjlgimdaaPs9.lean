/- PLAIN: who wants to share is served at once, where nobody is alone; who then wants it alone waits for all others. -/
import Derived.Test.YtbeoigkjlgimdaaPl9
namespace Go.Proofs.Ytbeoigkjlgimdaa
open Go.RowKit

/-- Some share, and nobody waits. -/
structure ShQ (h : List Cl) : Prop where
  ok : OkQ h []
  one : ∀ c ∈ h, c.2 = 1
theorem idx_nil (p : Cl → Bool) : idxM p [] = -1 := by simp [idxM]
theorem sh_mode {h : List Cl} (x : ShQ h) (z : Int) : modeM h z = 0 ∨ modeM h z = 1 := by
  by_cases h0 : modeM h z = 0
  · exact .inl h0
  · exact .inr (x.one _ (mode_pos h0))
theorem sh_fits {h : List Cl} (x : ShQ h) (z : Int) : fitsM h (z, 1) = true :=
  (fits_iff x.ok.has (.inl rfl)).2 fun c hc _ => by rw [x.one c hc]; rfl
theorem sh_cover {h : List Cl} (x : ShQ h) (z : Int) : covB (modeM h z) 1 = decide (modeM h z = 1) := by
  rcases sh_mode x z with e | e <;> rw [e] <;> rfl
theorem ins_len {h : List Cl} {z : Int} (hno : ∀ c ∈ h, c.1 ≠ z) (hm : (1 : Int) ≠ 0) : (giveM h (z, 1)).length = h.length + 1 := by
  have : delM h z = h := List.filter_eq_self.2 fun c hc => by
    have := hno c hc
    simpa [outQ, ofQ] using this
  unfold giveM
  rw [if_neg hm, insC_length, this]
theorem sh_none {h : List Cl} (x : ShQ h) {z : Int} (h0 : modeM h z ≠ 1) : ∀ c ∈ h, c.1 ≠ z := fun c hc e => by
  have := mode_mem (Ris.dis x.ok.rising) hc
  rw [e, x.one c hc] at this
  exact h0 this
theorem sh_step {h : List Cl} (x : ShQ h) {z : Int} (hz : thereB z = true) : newT .want h [] z 1 = [(z, 1)] ∧ newW .want h [] z 1 = [] ∧ ShQ (newH .want h [] z 1) ∧
    (newH .want h [] z 1).length = h.length + (if modeM h z = 1 then 0 else 1) ∧ ∀ y, modeM (newH .want h [] z 1) y = if y = z then 1 else modeM h y := by
  have hok := new_ok .want x.ok z 1
  by_cases h1 : modeM h z = 1
  · have hw : wantM h [] z 1 = ([], [(z, 1)]) := by
      unfold wantM
      rw [if_neg (by decide), if_pos (by rw [sh_cover x, h1]; rfl), h1]
    have eH : newH .want h [] z 1 = h := by
      rw [newH, if_pos hz]
      show givesM h (srv h (wantM h [] z 1).1) = h
      rw [hw]; rfl
    have eW : newW .want h [] z 1 = [] := by
      rw [newW, if_pos hz]
      show (wantM h [] z 1).1.drop (srv h (wantM h [] z 1).1).length = []
      rw [hw]; rfl
    have eT : newT .want h [] z 1 = [(z, 1)] := by
      rw [newT, if_pos hz]
      show (wantM h [] z 1).2 ++ srv h (wantM h [] z 1).1 = [(z, 1)]
      rw [hw]; rfl
    rw [eH, eW, eT]
    refine ⟨rfl, rfl, x, by rw [if_pos h1]; rfl, fun y => ?_⟩
    split
    · rename_i e
      rw [e, h1]
    · rfl
  · have hw : wantM h [] z 1 = ([(z, 1)], []) := by
      unfold wantM
      rw [if_neg (by decide), if_neg (by rw [sh_cover x]; simpa using h1), idx_nil, if_neg (by decide)]
      rfl
    have hs : srv h [(z, 1)] = [(z, 1)] := by rw [srv, if_pos (sh_fits x z)]; rfl
    have eH : newH .want h [] z 1 = giveM h (z, 1) := by
      rw [newH, if_pos hz]
      show givesM h (srv h (wantM h [] z 1).1) = _
      rw [hw, hs]; rfl
    have eW : newW .want h [] z 1 = [] := by
      rw [newW, if_pos hz]
      show (wantM h [] z 1).1.drop (srv h (wantM h [] z 1).1).length = []
      rw [hw, hs]; rfl
    have eT : newT .want h [] z 1 = [(z, 1)] := by
      rw [newT, if_pos hz]
      show (wantM h [] z 1).2 ++ srv h (wantM h [] z 1).1 = [(z, 1)]
      rw [hw, hs]; rfl
    rw [eH, eW] at hok
    rw [eH, eW, eT]
    refine ⟨rfl, rfl, ⟨hok, fun c hc => ?_⟩, ?_, fun y => mode_give (z, 1) x.ok.rising y⟩
    · rcases mem_give.1 hc with h2 | h2
      · exact x.one c h2.1
      · rw [h2.2]
    · rw [if_neg h1, ins_len (sh_none x h1) (by decide)]
/-- How many others there are. -/
theorem sh_others {h : List Cl} (x : ShQ h) (z : Int) : (delM h z).length + (if modeM h z = 1 then 1 else 0) = h.length := by
  have hd := Ris.dis x.ok.rising
  have h1 := x.one
  clear x
  induction h with
  | nil => simp [delM, outC, modeM]
  | cons c h ih =>
    have hd2 := List.pairwise_cons.1 hd
    have ih2 := ih hd2.2 (fun y hy => h1 y (by simp [hy]))
    rw [mode_cons]
    by_cases hc : c.1 = z
    · have hno : modeM h z = 0 := mode_not' fun y hy => by rw [← hc]; exact fun e => hd2.1 y hy e.symm
      have e1 : outQ (ofQ z) c = false := by simp [outQ, ofQ, hc]
      have e2 : delM (c :: h) z = delM h z := by unfold delM outC; rw [List.filter_cons, e1]; rfl
      rw [hno] at ih2
      rw [if_pos hc, h1 c (by simp), e2, List.length_cons]
      simp at ih2 ⊢
      exact ih2
    · have e1 : outQ (ofQ z) c = true := by simp [outQ, ofQ, hc]
      have e2 : delM (c :: h) z = c :: delM h z := by unfold delM outC; rw [List.filter_cons, e1]; rfl
      rw [if_neg hc, e2, List.length_cons, List.length_cons]
      omega
/-- Who then wants it alone. -/
theorem sh_alone {h : List Cl} (x : ShQ h) {z : Int} (hz : thereB z = true) :
    ((delM h z).length = 0 → newT .want h [] z 2 = [(z, 2)] ∧ modeM (newH .want h [] z 2) z = 2 ∧ newW .want h [] z 2 = []) ∧
    ((delM h z).length ≠ 0 → newT .want h [] z 2 = [] ∧ newH .want h [] z 2 = h ∧ newW .want h [] z 2 = [(z, 2)] ∧ (cM h (z, 2)).length = (delM h z).length) := by
  have hw : wantM h [] z 2 = ([(z, 2)], []) := by
    unfold wantM
    rw [if_neg (by decide), if_neg (by rcases sh_mode x z with e | e <;> rw [e] <;> decide), idx_nil, if_neg (by decide)]
    rfl
  have hfit : fitsM h (z, 2) = true ↔ (delM h z).length = 0 := by
    rw [fits_iff x.ok.has (.inr rfl)]
    constructor
    · intro hf
      have : delM h z = [] := List.eq_nil_iff_forall_not_mem.2 fun c hc => by
        have hc2 := mem_del.1 hc
        have := hf c hc2.1 hc2.2
        rw [x.one c hc2.1] at this
        cases this
      rw [this]; rfl
    · intro h0 c hc hne
      have : c ∈ delM h z := mem_del.2 ⟨hc, hne⟩
      rw [List.eq_nil_of_length_eq_zero h0] at this
      cases this
  refine ⟨fun h0 => ?_, fun h0 => ?_⟩
  · have hs : srv h [(z, 2)] = [(z, 2)] := by rw [srv, if_pos (hfit.2 h0)]; rfl
    refine ⟨?_, ?_, ?_⟩
    · rw [newT, if_pos hz]
      show (wantM h [] z 2).2 ++ srv h (wantM h [] z 2).1 = _
      rw [hw, hs]; rfl
    · rw [newH, if_pos hz]
      show modeM (givesM h (srv h (wantM h [] z 2).1)) z = 2
      rw [hw, hs]
      show modeM (giveM h (z, 2)) z = 2
      rw [mode_give _ x.ok.rising, if_pos rfl]
    · rw [newW, if_pos hz]
      show (wantM h [] z 2).1.drop (srv h (wantM h [] z 2).1).length = []
      rw [hw, hs]; rfl
  · have hf : fitsM h (z, 2) = false := by
      cases hb : fitsM h (z, 2) with
      | false => rfl
      | true => exact absurd (hfit.1 hb) h0
    have hs : srv h [(z, 2)] = [] := by rw [srv, hf]; rfl
    refine ⟨?_, ?_, ?_, ?_⟩
    · rw [newT, if_pos hz]
      show (wantM h [] z 2).2 ++ srv h (wantM h [] z 2).1 = _
      rw [hw, hs]; rfl
    · rw [newH, if_pos hz]
      show givesM h (srv h (wantM h [] z 2).1) = h
      rw [hw, hs]; rfl
    · rw [newW, if_pos hz]
      show (wantM h [] z 2).1.drop (srv h (wantM h [] z 2).1).length = _
      rw [hw, hs]; rfl
    · unfold cM
      rw [List.length_map]
      congr 1
      unfold delM outC
      refine List.filter_congr fun c hc => ?_
      have : fitB c.2 2 = false := by rw [x.one c hc]; rfl
      simp [cQ, this, outQ, ofQ, bne]
end Go.Proofs.Ytbeoigkjlgimdaa
