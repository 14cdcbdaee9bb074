/- PLAIN: what the document's Scan of layer 11 asks. -/
import Derived.Test.YtgncmgchoogmpaaDoorJq11
namespace Go.Proofs.YtgncmgchoogmpaaDoor
open Go.RowKit

/-- Is a reader bad behind so many numbers of four bytes? -/
def flagS : Nat → List UInt8 → Bool → Bool
  | 0, _, b => b
  | k + 1, r, b => takeB (leftS k r) (flagS k r b) 4
def xsQ (s : List UInt8) : Nat := eightV ((xopenS s).drop 4) 1099511627776
def xsT (s : List UInt8) : List UInt8 := eightL ((xopenS s).drop 4) 1099511627776
def xsB (s : List UInt8) : Bool := takeB (xsT s) (eightB ((xopenS s).drop 4) false 1099511627776) 2
def xsN (s : List UInt8) : Nat := textN (xsT s)
def xsR (s : List UInt8) : List UInt8 := takeL (xsT s) 2
theorem xsQ_le (s : List UInt8) : xsQ s ≤ 1099511627776 := eightV_le _
def xsL (rg : List (List UInt8)) : List Ch := chgL0 (xsR (rg.getD 1 [])) rg (xsN (rg.getD 1 []))
def xT1 (s : List UInt8) (ok : Bool) : Bool := ok && (xopenOk s && (decide (14 ≤ (xopenS s).length) && ((xopenS s).take 4 == signD)))
def xT2 (s : List UInt8) (d n : Nat) : Bool := !xsB s && (decide (1 ≤ xsQ s) && (decide (d < xsQ s) && (decide (1 ≤ xsN s) && (decide (xsN s ≤ 60) && decide (xsN s + 3 ≤ n)))))
def xsE (s : List UInt8) : Int := endE (leftS (xsN s) (xsR s)) (flagS (xsN s) (xsR s) (xsB s))
def xT3 (rg : List (List UInt8)) : Bool := decide (xsE (rg.getD 1 []) = 0) && (rowB (xsL rg) && ((firstS (xsQ (rg.getD 1 [])) (xsL rg) == rg.getD 1 []) && (markS (xsQ (rg.getD 1 [])) (xsL rg) == rg.getD (rg.length - 1) [])))
theorem flagS_sects : ∀ (i : Nat) (l : List Ch) (b : Bool), i ≤ l.length → flagS i (sects l) b = b
  | 0, _, _, _ => rfl
  | i + 1, l, b, h => by
    rw [flagS, flagS_sects i l b (by omega), leftS_sects i l (by omega)]
    obtain ⟨c, hc⟩ : ∃ c, l[i]? = some c := ⟨_, List.getElem?_eq_getElem (by omega)⟩
    obtain ⟨hi, e⟩ := List.getElem?_eq_some_iff.1 hc
    rw [List.drop_eq_getElem_cons hi, sects_cons, takeB, if_pos (by rw [List.length_append, be_length]; omega)]
theorem first_xopen {seq : Nat} {l : List Ch} (hl : l.length ≤ 60) (hs : seq ≤ 1099511627776) :
    xopenOk (firstS seq l) = true ∧ xopenS (firstS seq l) = lineD seq l ∧ xsQ (firstS seq l) = seq ∧ xsN (firstS seq l) = l.length ∧ xsR (firstS seq l) = sects l ∧ xsB (firstS seq l) = false := by
  obtain ⟨o1, o2⟩ := xopenS_fill (t := lineD seq l) (by rw [lineD_length]; omega)
  have e1 : (xopenS (firstS seq l)).drop 4 = be 8 seq ++ (be 2 l.length ++ sects l) := by
    rw [firstS, o2, lineD, List.drop_left' (show signD.length = 4 from rfl)]
  obtain ⟨a, b, c⟩ := eight_put seq (be 2 l.length ++ sects l) 1099511627776 (by omega) (by omega)
  obtain ⟨d, e, f⟩ := take_put 2 l.length (sects l) (by omega)
  have t1 : xsT (firstS seq l) = be 2 l.length ++ sects l := by rw [xsT, e1, b]
  exact ⟨o1, o2, by rw [xsQ, e1, a], by rw [xsN, t1, textN, d], by rw [xsR, t1, e], by rw [xsB, t1, e1, c, f]⟩
theorem xscan_of {rg : List (List UInt8)} {d e seq : Nat} {ok : Bool} {l : List Ch} (hd : DoneR (rg.getD 0 []) d ok) (h : IsRec rg e seq l) : xT1 (rg.getD 1 []) ok = true ∧ xT2 (rg.getD 1 []) d rg.length = true ∧ xT3 rg = true := by
  have hk : DoneR (rg.getD 0 []) e true := .inl ⟨rfl, h.dle, h.head⟩
  obtain ⟨rfl, rfl⟩ := hd.eq hk
  obtain ⟨a1, a2, a3, a4, a5, a6⟩ := first_xopen h.n60 h.seqm
  have hL : xsL rg = l := by
    rw [xsL, h.first, a4, a5]
    apply List.ext_getElem?
    intro i
    by_cases hi : i < l.length
    · have hg := List.getElem?_eq_getElem hi
      have hr := rowB_of h.row _ (List.getElem_mem hi)
      rw [chgL0_get _ _ _ _ hi, hg, secN_sects l i _ hg hr.1 hr.2.1, h.body i _ hg]
    · rw [List.getElem?_eq_none (by rw [chgL0_length]; omega), List.getElem?_eq_none (by omega)]
  refine ⟨?_, ?_, ?_⟩
  · rw [xT1, h.first, a1, a2, lineD_length]
    simp [lineD, signD]
  · rw [xT2, h.first, a6, a3, a4]
    have := h.n1
    have := h.n60
    have := h.room
    have := h.seq1
    have := h.above
    simp
    omega
  · have hE : xsE (firstS seq l) = 0 := by
      rw [xsE, a4, a5, a6, leftS_sects _ _ (Nat.le_refl _), flagS_sects _ _ _ (Nat.le_refl _), List.drop_of_length_le (Nat.le_refl _)]
      rfl
    rw [xT3, hL, h.mark, h.first, a3, hE, h.row]
    simp
theorem xscan_short {rg : List (List UInt8)} (h : rg.length < 2) : ScanR rg 0 [] false := scan_short (by omega)
theorem xscan_no {rg : List (List UInt8)} {d : Nat} {ok : Bool} (hd : DoneR (rg.getD 0 []) d ok) (h : xT1 (rg.getD 1 []) ok = false ∨ xT2 (rg.getD 1 []) d rg.length = false ∨ xT3 rg = false) : ScanR rg 0 [] false := by
  refine .inr ⟨rfl, rfl, rfl, fun e t m hr => ?_⟩
  obtain ⟨a, b, c⟩ := xscan_of hd hr
  rw [a, b, c] at h
  rcases h with h | h | h <;> cases h
theorem xscan_yes {rg : List (List UInt8)} {d : Nat} {ok : Bool} (hd : DoneR (rg.getD 0 []) d ok) (h1 : xT1 (rg.getD 1 []) ok = true) (h2 : xT2 (rg.getD 1 []) d rg.length = true) (h3 : xT3 rg = true) : ScanR rg (xsQ (rg.getD 1 [])) (xsL rg) true := by
  simp only [xT1, Bool.and_eq_true] at h1
  simp only [xT2, Bool.and_eq_true, decide_eq_true_eq] at h2
  simp only [xT3, Bool.and_eq_true, decide_eq_true_eq, beq_iff_eq] at h3
  obtain ⟨rfl, _⟩ := h1
  obtain ⟨_, q1, q2, n1, n60, nr⟩ := h2
  obtain ⟨_, r1, r2, r3⟩ := h3
  have hl : (xsL rg).length = xsN (rg.getD 1 []) := by rw [xsL, chgL0_length]
  rcases hd with ⟨_, k1, k2⟩ | ⟨e, _⟩
  · refine .inl ⟨rfl, d, by rw [hl]; exact nr, by rw [hl]; exact n1, by rw [hl]; exact n60, k1, k2, r2.symm, ?_, r1, q1, xsQ_le _, q2, r3.symm⟩
    intro i c hc
    have hi := (List.getElem?_eq_some_iff.1 hc).1
    rw [hl] at hi
    rw [xsL, chgL0_get _ _ _ _ hi] at hc
    rw [← Option.some.inj hc]
  · cases e
end Go.Proofs.YtgncmgchoogmpaaDoor
