/- PLAIN: who is served, who still waits. -/
import Derived.Test.YthpmodohfjjjcaaOps09
namespace Go.Proofs.Ythpmodohfjjjcaa
open Go.RowKit

theorem mode_cons (c : Cl) (l : List Cl) (z : Int) : modeM (c :: l) z = if c.1 = z then c.2 else modeM l z := by
  unfold modeM
  by_cases h : c.1 = z
  · simp [List.find?, ofQ, h]
  · have : (c.1 == z) = false := by simpa using h
    simp [List.find?, ofQ, h, this]
theorem any_of {l : List Cl} {z : Int} : l.any (ofQ z) = true ↔ ∃ c ∈ l, c.1 = z := by simp [ofQ]
theorem mode_append (a b : List Cl) (z : Int) : modeM (a ++ b) z = if a.any (ofQ z) then modeM a z else modeM b z := by
  induction a with
  | nil => simp
  | cons c a ih =>
    rw [List.cons_append, mode_cons, mode_cons, ih, List.any_cons]
    by_cases h : c.1 = z
    · simp [h, ofQ]
    · have : ofQ z c = false := by simpa [ofQ] using h
      rw [this, if_neg h, if_neg h, Bool.false_or]
theorem mode_gives : ∀ (t h : List Cl), Ris h → Dis t → ∀ n, modeM (givesM h t) n = if t.any (ofQ n) then modeM t n else modeM h n
  | [], h, _, _, n => by simp [givesM]
  | c :: t, h, hr, hd, n => by
    have hd2 := List.pairwise_cons.1 hd
    have ih := mode_gives t (giveM h c) (ris_give c hr) hd2.2 n
    show modeM (givesM (giveM h c) t) n = _
    rw [ih, mode_give c hr, mode_cons, List.any_cons]
    by_cases hc : c.1 = n
    · have hno : t.any (ofQ n) = false := List.any_eq_false.2 fun x hx => by
        have := hd2.1 x hx
        simp only [ofQ, beq_iff_eq]
        rw [← hc]
        exact fun e => this e.symm
      have : ofQ n c = true := by simpa [ofQ] using hc
      rw [hno, this, Bool.true_or, if_pos rfl, if_pos hc, if_neg (by simp), if_pos hc.symm]
    · have : ofQ n c = false := by simpa [ofQ] using hc
      rw [this, Bool.false_or, if_neg hc, if_neg (fun e : n = c.1 => hc e.symm)]
theorem srv_take : ∀ (ws h : List Cl), srv h ws = ws.take (srv h ws).length
  | [], h => rfl
  | c :: ws, h => by
    cases hf : fitsM h c with
    | true =>
      have e : srv h (c :: ws) = c :: srv (giveM h c) ws := by rw [srv, if_pos hf]
      rw [e, List.length_cons, List.take_succ_cons, ← srv_take ws (giveM h c)]
    | false =>
      have e : srv h (c :: ws) = [] := by rw [srv, hf]; rfl
      rw [e]
      rfl
theorem srv_split (ws h : List Cl) : ws = srv h ws ++ ws.drop (srv h ws).length := by
  have := List.take_append_drop (srv h ws).length ws
  rw [← srv_take] at this
  exact this.symm
theorem srv_dis {ws : List Cl} (h : List Cl) (hd : Dis ws) : Dis (srv h ws) := by rw [srv_take]; exact hd.sublist (List.take_sublist _ _)
/-- Of a node that is served, what it waited for; of another one, what it had. -/
theorem served {h ws : List Cl} (x : PreQ h ws) (n : Int) : modeM (givesM h (srv h ws)) n = if (srv h ws).any (ofQ n) then modeM ws n else modeM h n := by
  rw [mode_gives _ _ x.rising (srv_dis h x.once)]
  have hs := mode_append (srv h ws) (ws.drop (srv h ws).length) n
  rw [← srv_split] at hs
  split
  · rename_i ha
    rw [hs, if_pos ha]
  · rfl
/-- Who is served waits no more; another one waits as it did. -/
theorem waiting {h ws : List Cl} (x : PreQ h ws) (n : Int) : modeM (ws.drop (srv h ws).length) n = if (srv h ws).any (ofQ n) then 0 else modeM ws n := by
  have hs := mode_append (srv h ws) (ws.drop (srv h ws).length) n
  rw [← srv_split] at hs
  split
  · rename_i ha
    obtain ⟨c, hc, e⟩ := any_of.1 ha
    refine mode_not' fun y hy => ?_
    have hd := x.once
    rw [srv_split ws h] at hd
    have := (List.pairwise_append.1 hd).2.2 c hc y hy
    rw [← e]
    exact fun e2 => this e2.symm
  · rename_i ha
    rw [hs, if_neg ha]

/-! ### leave -/
theorem leave_gone {h ws : List Cl} (x : OkQ h ws) {z : Int} (hz : thereB z = true) : modeM (newH .leave h ws z 0) z = 0 ∧ modeM (newW .leave h ws z 0) z = 0 := by
  have p : PreQ (delM h z) (delM ws z) := do_pre .leave x hz 0
  have hno : (srv (delM h z) (delM ws z)).any (ofQ z) = false := List.any_eq_false.2 fun c hc => by
    rw [srv_take] at hc
    have := (mem_del.1 (List.mem_of_mem_take hc)).2
    simpa [ofQ] using this
  constructor
  · rw [newH, if_pos hz]
    show modeM (givesM (delM h z) (srv (delM h z) (delM ws z))) z = 0
    rw [served p, hno, mode_del (Ris.dis x.rising)]
    simp
  · rw [newW, if_pos hz]
    show modeM ((delM ws z).drop (srv (delM h z) (delM ws z)).length) z = 0
    rw [waiting p, hno, mode_del x.once]
    simp
theorem leave_others {h ws : List Cl} (x : OkQ h ws) {z : Int} (hz : thereB z = true) {n : Int} (hn : n ≠ z) :
    ((newT .leave h ws z 0).any (ofQ n) = true → modeM (newH .leave h ws z 0) n = modeM ws n) ∧
    ((newT .leave h ws z 0).any (ofQ n) = false → modeM (newH .leave h ws z 0) n = modeM h n ∧ modeM (newW .leave h ws z 0) n = modeM ws n) := by
  have p : PreQ (delM h z) (delM ws z) := do_pre .leave x hz 0
  have e1 : newT .leave h ws z 0 = srv (delM h z) (delM ws z) := by rw [newT, if_pos hz]; rfl
  have e2 : modeM (newH .leave h ws z 0) n = if (srv (delM h z) (delM ws z)).any (ofQ n) then modeM (delM ws z) n else modeM (delM h z) n := by
    rw [newH, if_pos hz]
    exact served p n
  have e3 : modeM (newW .leave h ws z 0) n = if (srv (delM h z) (delM ws z)).any (ofQ n) then 0 else modeM (delM ws z) n := by
    rw [newW, if_pos hz]
    exact waiting p n
  rw [e1, e2, e3]
  refine ⟨fun ha => ?_, fun ha => ?_⟩
  · rw [ha, if_pos rfl, mode_del x.once, if_neg hn]
  · rw [ha]
    simp only [Bool.false_eq_true, if_false]
    rw [mode_del (Ris.dis x.rising), mode_del x.once, if_neg hn, if_neg hn]
    exact ⟨rfl, rfl⟩
end Go.Proofs.Ythpmodohfjjjcaa
