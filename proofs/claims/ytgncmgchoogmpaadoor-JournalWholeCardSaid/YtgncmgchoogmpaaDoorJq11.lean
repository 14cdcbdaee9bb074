/- PLAIN: what is read of a first line, and what Scan finds. -/
import Derived.Test.YtgncmgchoogmpaaDoorJp11
namespace Go.Proofs.YtgncmgchoogmpaaDoor
open Go.RowKit

/-- What is left behind so many numbers of four bytes. -/
def leftS : Nat → List UInt8 → List UInt8
  | 0, r => r
  | k + 1, r => takeL (leftS k r) 4
def secN (k : Nat) (r : List UInt8) : Nat := num (takeS (leftS k r) 4)
theorem secN_lt (k : Nat) (r : List UInt8) : secN k r < 4294967296 := num_takeS _ 4
def chg0 (s : List UInt8) : List UInt8 := takeL (openS s) 4
def chgQ0 (s : List UInt8) : Nat := eightV (chg0 s) 1099511627776
def chgT (s : List UInt8) : List UInt8 := eightL (chg0 s) 1099511627776
def chgN (s : List UInt8) : Nat := textN (chgT s)
def chgR (s : List UInt8) : List UInt8 := takeL (chgT s) 2
def chgL0 (r : List UInt8) (rg : List (List UInt8)) (n : Nat) : List Ch := (List.range n).map fun i => ((secN i r : Int), rg.getD (2 + i) [])
theorem chgL0_length (r : List UInt8) (rg : List (List UInt8)) (n : Nat) : (chgL0 r rg n).length = n := by simp [chgL0]
theorem chgL0_get (r : List UInt8) (rg : List (List UInt8)) (n i : Nat) (h : i < n) : (chgL0 r rg n)[i]? = some ((secN i r : Int), rg.getD (2 + i) []) := by
  simp [chgL0, h]
theorem chgL0_succ (r : List UInt8) (rg : List (List UInt8)) (n : Nat) : chgL0 r rg (n + 1) = chgL0 r rg n ++ [((secN n r : Int), rg.getD (2 + n) [])] := by
  simp [chgL0, List.range_succ]
def chgB (rg : List (List UInt8)) : Bool := decide (roomI rg.length < (chgN (rg.getD 1 []) : Int))
def chgQ (rg : List (List UInt8)) : Nat := if chgB rg then 0 else chgQ0 (rg.getD 1 [])
def chgL (rg : List (List UInt8)) : List Ch := if chgB rg then [] else chgL0 (chgR (rg.getD 1 [])) rg (chgN (rg.getD 1 []))
theorem chgQ_le (rg : List (List UInt8)) : chgQ rg ≤ 1099511627776 := by
  unfold chgQ
  split
  · omega
  · exact eightV_le _
theorem leftS_sects : ∀ (i : Nat) (l : List Ch), i ≤ l.length → leftS i (sects l) = sects (l.drop i)
  | 0, _, _ => rfl
  | i + 1, l, h => by
    rw [leftS, leftS_sects i l (by omega)]
    obtain ⟨c, hc⟩ : ∃ c, l[i]? = some c := ⟨_, List.getElem?_eq_getElem (by omega)⟩
    obtain ⟨hi, e⟩ := List.getElem?_eq_some_iff.1 hc
    rw [List.drop_eq_getElem_cons hi, sects_cons, takeL, if_pos (by rw [List.length_append, be_length]; omega), List.drop_left' (be_length 4 _)]
theorem secN_sects (l : List Ch) (i : Nat) (c : Ch) (hc : l[i]? = some c) (h0 : 0 ≤ c.1) (h1 : c.1 < 65536) : (secN i (sects l) : Int) = c.1 := by
  obtain ⟨hi, e⟩ := List.getElem?_eq_some_iff.1 hc
  rw [secN, leftS_sects i l (by omega), List.drop_eq_getElem_cons hi, sects_cons, e, (take_put 4 _ _ (by omega)).1]
  omega
theorem first_open {seq : Nat} {l : List Ch} (hl : l.length ≤ 60) (hs : seq ≤ 1099511627776) : chgQ0 (firstS seq l) = seq ∧ chgN (firstS seq l) = l.length ∧ chgR (firstS seq l) = sects l := by
  have e1 : chg0 (firstS seq l) = be 8 seq ++ (be 2 l.length ++ sects l) := by
    rw [chg0, firstS, (openS_fill (by rw [lineD_length]; omega)).2, lineD, sign_take _ _ rfl]
  obtain ⟨a, b, _⟩ := eight_put seq (be 2 l.length ++ sects l) 1099511627776 (by omega) (by omega)
  obtain ⟨c, d, _⟩ := take_put 2 l.length (sects l) (by omega)
  refine ⟨by rw [chgQ0, e1, a], by rw [chgN, chgT, e1, b, textN, c], by rw [chgR, chgT, e1, b, d]⟩
theorem chg_of {rg : List (List UInt8)} {d seq : Nat} {l : List Ch} (h : IsRec rg d seq l) : chgQ rg = seq ∧ chgL rg = l := by
  obtain ⟨a, b, c⟩ := first_open h.n60 h.seqm
  have hb : chgB rg = false := by
    rw [chgB, h.first, b]
    have := h.room
    have := h.n60
    simp only [decide_eq_false_iff_not]
    unfold roomI
    omega
  refine ⟨by rw [chgQ, hb, h.first, a]; rfl, ?_⟩
  rw [chgL, hb, h.first, b, c]
  apply List.ext_getElem?
  intro i
  by_cases hi : i < l.length
  · have hg := List.getElem?_eq_getElem hi
    have hr := rowB_of h.row _ (List.getElem_mem hi)
    simp only [Bool.false_eq_true, if_false]
    rw [chgL0_get _ _ _ _ hi, hg, secN_sects l i _ hg hr.1 hr.2.1, h.body i _ hg]
  · rw [List.getElem?_eq_none (by rw [if_neg (by decide), chgL0_length]; omega), List.getElem?_eq_none (by omega)]
theorem chg_body {rg : List (List UInt8)} (h : chgL rg ≠ []) : ∀ i c, (chgL rg)[i]? = some c → rg.getD (2 + i) [] = c.2 := by
  intro i c hc
  unfold chgL at h hc
  split at h
  · exact absurd rfl h
  · rename_i hb
    rw [if_neg hb] at hc
    have hi := (List.getElem?_eq_some_iff.1 hc).1
    rw [chgL0_length] at hi
    rw [chgL0_get _ _ _ _ hi] at hc
    injection hc with hc
    rw [← hc]
/-- What Scan tests last. -/
def scanB (rg : List (List UInt8)) (d : Nat) (ok : Bool) : Bool := ok && (decide (d < chgQ rg) && (decide (recE rg.length (chgQ rg) (chgL rg) = 0) && ((firstS (chgQ rg) (chgL rg) == rg.getD 1 []) && (markS (chgQ rg) (chgL rg) == rg.getD (rg.length - 1) []))))
theorem scan_yes {rg : List (List UInt8)} {d : Nat} {ok : Bool} (hd : DoneR (rg.getD 0 []) d ok) (h4 : 4 ≤ rg.length) (h : scanB rg d ok = true) : ScanR rg (chgQ rg) (chgL rg) true := by
  simp only [scanB, Bool.and_eq_true, decide_eq_true_eq, beq_iff_eq] at h
  obtain ⟨h1, h2, h3, h5, h6⟩ := h
  obtain ⟨r1, r2, r3, r4, r5⟩ := recE_ok h3
  rcases hd with ⟨_, k1, k2⟩ | ⟨e, _⟩
  · refine .inl ⟨rfl, d, ?_, List.length_pos_iff.2 r3, ?_, k1, k2, h5.symm, chg_body r3, r4, by omega, by omega, h2, h6.symm⟩
    · unfold roomI at r5; omega
    · have := roomI_le rg.length; omega
  · rw [e] at h1; cases h1
theorem scan_no {rg : List (List UInt8)} {d : Nat} {ok : Bool} (hd : DoneR (rg.getD 0 []) d ok) (h : scanB rg d ok = false) : ScanR rg 0 [] false := by
  refine .inr ⟨rfl, rfl, rfl, fun e t m hr => ?_⟩
  obtain ⟨q1, q2⟩ := chg_of hr
  have hk : DoneR (rg.getD 0 []) e true := .inl ⟨rfl, hr.dle, hr.head⟩
  obtain ⟨rfl, rfl⟩ := hd.eq hk
  have hE : recE (rg.length : Int) (t : Int) m = 0 := recE_of (by have := hr.seq1; omega) (by have := hr.seqm; omega) (List.ne_nil_of_length_pos hr.n1) hr.row (by have := hr.room; have := hr.n60; unfold roomI; omega)
  have : scanB rg d true = true := by
    rw [scanB, q1, q2, hr.first, hr.mark, hE]
    simp [hr.above]
  rw [this] at h
  cases h
theorem scan_short {rg : List (List UInt8)} (h : rg.length < 4) : ScanR rg 0 [] false := .inr ⟨rfl, rfl, rfl, fun e t m hr => by have := hr.room; have := hr.n1; omega⟩
end Go.Proofs.YtgncmgchoogmpaaDoor
