/- A row of numbers and texts, and how it is read: plain lemmas. -/
import Derived.Test.YtofafnobgkhdnaaBase
namespace Go.Proofs.Ytofafnobgkhdnaa
open Go.RowKit

/-- What is put for one number and one text. -/
def piece (z : Nat) (t : List UInt8) : List UInt8 := be 4 z ++ textS t ++ be 8 z ++ be 2 z
/-- The pieces of m numbers and texts, from the i-th on. -/
def pieces (f : Nat → Nat) (g : Nat → List UInt8) (i : Nat) : Nat → List UInt8
  | 0 => []
  | m + 1 => piece (f i) (g i) ++ pieces f g (i + 1) m
theorem pieces_snoc (f : Nat → Nat) (g : Nat → List UInt8) : ∀ m i, pieces f g i (m + 1) = pieces f g i m ++ piece (f (i + m)) (g (i + m))
  | 0, i => by simp [pieces]
  | m + 1, i => by
    have h := pieces_snoc f g m (i + 1)
    rw [pieces, h, pieces, List.append_assoc, show i + (m + 1) = i + 1 + m from by omega]
theorem piece_length (z : Nat) (t : List UInt8) (h : t.length ≤ 60) : (piece z t).length = 16 + t.length := by
  simp [piece, be_length, textS]
  rw [if_pos (by omega)]
  simp [be_length]
  omega
theorem pieces_length (f : Nat → Nat) (g : Nat → List UInt8) (hg : ∀ i, (g i).length ≤ 60) : ∀ m i, (pieces f g i m).length ≤ 76 * m ∧ m ≤ (pieces f g i m).length
  | 0, i => by simp [pieces]
  | m + 1, i => by
    have h := pieces_length f g hg m (i + 1)
    have h2 := piece_length (f i) (g i) (hg i)
    have h3 := hg i
    rw [pieces, List.length_append]
    omega
def most40 : Int := 1099511627776
/-- A reader's state behind Four, Text, Eight, Two. -/
def stepL (l : List UInt8) : List UInt8 := takeL (eightL (rtextL (takeL l 4)) most40) 2
def stepB (l : List UInt8) (br : Bool) : Bool := takeB (eightL (rtextL (takeL l 4)) most40) (eightB (rtextL (takeL l 4)) (rtextB (takeL l 4) (takeB l br 4)) most40) 2
theorem read_piece (z : Nat) (t rest : List UInt8) (hz : z < 4294967296) (ht : t.length ≤ 60) :
    num (takeS (piece z t ++ rest) 4) = z ∧ takeL (piece z t ++ rest) 4 = textS t ++ (be 8 z ++ (be 2 z ++ rest)) ∧ (∀ br, takeB (piece z t ++ rest) br 4 = br) ∧
    rtextS (textS t ++ (be 8 z ++ (be 2 z ++ rest))) = t ∧ rtextL (textS t ++ (be 8 z ++ (be 2 z ++ rest))) = be 8 z ++ (be 2 z ++ rest) ∧ (∀ br, rtextB (textS t ++ (be 8 z ++ (be 2 z ++ rest))) br = br) ∧
    eightV (be 8 z ++ (be 2 z ++ rest)) most40 = z ∧ eightL (be 8 z ++ (be 2 z ++ rest)) most40 = be 2 z ++ rest ∧ (∀ br, eightB (be 8 z ++ (be 2 z ++ rest)) br most40 = br) ∧
    textN (be 2 z ++ rest) = z % 65536 ∧ takeL (be 2 z ++ rest) 2 = rest ∧ (∀ br, takeB (be 2 z ++ rest) br 2 = br) := by
  have e : piece z t ++ rest = be 4 z ++ (textS t ++ (be 8 z ++ (be 2 z ++ rest))) := by simp [piece]
  obtain ⟨a1, a2, a3⟩ := take_put 4 z (textS t ++ (be 8 z ++ (be 2 z ++ rest))) (by omega)
  obtain ⟨b1, b2, b3⟩ := rtext_put t (be 8 z ++ (be 2 z ++ rest)) (by omega)
  obtain ⟨c1, c2, c3⟩ := eight_put z (be 2 z ++ rest) most40 (by unfold most40; omega) (by omega)
  have e2 : be 2 z = be 2 (z % 65536) := by
    have h1 : (z / 256) % 256 = (z % 65536 / 256) % 256 := by omega
    simp only [be]
    rw [← u8m (z / 256), h1, u8m, ← u8m z, ← u8m (z % 65536), show z % 65536 % 256 = z % 256 from by omega]
  obtain ⟨d1, d2, d3⟩ := take_put 2 (z % 65536) rest (by omega)
  rw [← e2] at d1 d2 d3
  rw [e]
  exact ⟨a1, a2, a3, b1, b2, b3, c1, c2, c3, d1, d2, d3⟩
theorem step_piece (z : Nat) (t rest : List UInt8) (hz : z < 4294967296) (ht : t.length ≤ 60) (br : Bool) : stepL (piece z t ++ rest) = rest ∧ stepB (piece z t ++ rest) br = br := by
  obtain ⟨_, a2, a3, _, b2, b3, _, c2, c3, _, d2, d3⟩ := read_piece z t rest hz ht
  exact ⟨by rw [stepL, a2, b2, c2, d2], by rw [stepB, a2, a3, b2, b3, c2, c3, d3]⟩
theorem take_short {l : List UInt8} {n : Nat} (h : l.length < n) (br : Bool) : takeL l n = [] ∧ takeB l br n = true ∧ takeS l n = [] :=
  ⟨if_neg (by omega), if_neg (by omega), if_neg (by omega)⟩
theorem rtext_broken : rtextL [] = [] ∧ ∀ br, rtextB [] br = true := by
  refine ⟨by decide, fun br => ?_⟩
  cases br <;> decide
theorem eight_short {l : List UInt8} (h : l.length < 8) (br : Bool) : eightL l most40 = [] ∧ eightB l br most40 = true := by
  obtain ⟨a, b, c⟩ := take_short h br
  have e : eightOk l most40 = true := by rw [eightOk, c]; decide
  exact ⟨by rw [eightL, if_pos e, a], by rw [eightB, if_pos e, b]⟩
theorem two_broken (br : Bool) : takeL ([] : List UInt8) 2 = [] ∧ takeB ([] : List UInt8) br 2 = true := ⟨by decide, by cases br <;> decide⟩
theorem step_nil (br : Bool) : stepL [] = [] ∧ stepB [] br = true := by
  obtain ⟨a, b, _⟩ := take_short (l := []) (n := 4) (by simp) br
  obtain ⟨c, d⟩ := rtext_broken
  obtain ⟨e, f⟩ := eight_short (l := []) (by simp) true
  obtain ⟨g, h⟩ := two_broken true
  exact ⟨by rw [stepL, a, c, e, g], by rw [stepB, a, b, c, d, e, f, h]⟩
/-- What is cut short within a piece breaks the reader. -/
theorem step_cut (z : Nat) (t : List UInt8) (hz : z < 4294967296) (ht : t.length ≤ 60) (n : Nat) (hn : n < (piece z t).length) (br : Bool) :
    stepL ((piece z t).take n) = [] ∧ stepB ((piece z t).take n) br = true := by
  have hl := piece_length z t ht
  by_cases h4 : n < 4
  · obtain ⟨a, b, _⟩ := take_short (l := (piece z t).take n) (n := 4) (by simp; omega) br
    obtain ⟨c, d⟩ := rtext_broken
    obtain ⟨e, f⟩ := eight_short (l := []) (by simp) true
    obtain ⟨g, h⟩ := two_broken true
    exact ⟨by rw [stepL, a, c, e, g], by rw [stepB, a, b, c, d, e, f, h]⟩
  · have e0 : (piece z t).take n = be 4 z ++ ((textS t ++ (be 8 z ++ be 2 z)).take (n - 4)) := by
      rw [piece, List.append_assoc, List.append_assoc, List.take_append, be_length, List.take_of_length_le (by rw [be_length]; omega)]
    obtain ⟨_, a2, a3⟩ := take_put 4 z ((textS t ++ (be 8 z ++ be 2 z)).take (n - 4)) (by omega)
    have htx : textS t = be 2 t.length ++ t := if_pos (by omega)
    have hts : (textS t).length = 2 + t.length := by rw [htx]; simp [be_length]
    obtain ⟨g, h⟩ := two_broken true
    obtain ⟨e, f⟩ := eight_short (l := []) (by simp) true
    by_cases ht2 : n - 4 < (textS t).length
    · -- the text is cut
      have e1 : (textS t ++ (be 8 z ++ be 2 z)).take (n - 4) = (textS t).take (n - 4) := by rw [List.take_append_of_le_length (by omega)]
      rw [e1] at e0 a2 a3
      have hx : rtextL ((textS t).take (n - 4)) = [] ∧ ∀ b, rtextB ((textS t).take (n - 4)) b = true := by
        by_cases h2 : n - 4 < 2
        · obtain ⟨a, _, c⟩ := take_short (l := (textS t).take (n - 4)) (n := 2) (by simp; omega) true
          refine ⟨by rw [rtextL, a, textN, c]; decide, fun b => ?_⟩
          obtain ⟨_, b', _⟩ := take_short (l := (textS t).take (n - 4)) (n := 2) (by simp; omega) b
          rw [rtextB, a, b', textN, c]
          decide
        · have e3 : (textS t).take (n - 4) = be 2 t.length ++ t.take (n - 6) := by
            rw [htx, List.take_append, be_length, List.take_of_length_le (by rw [be_length]; omega), show n - 4 - 2 = n - 6 from by omega]
          obtain ⟨d1, d2, d3⟩ := take_put 2 t.length (t.take (n - 6)) (by omega)
          have hsh : (t.take (n - 6)).length < t.length := by simp; omega
          rw [e3]
          refine ⟨?_, fun b => ?_⟩
          · rw [rtextL, d2, textN, d1]; exact if_neg (by omega)
          · rw [rtextB, d2, textN, d1]; exact if_neg (by omega)
      rw [e0]
      exact ⟨by rw [stepL, a2, hx.1, e, g], by rw [stepB, a2, a3, hx.1, hx.2, e, f, h]⟩
    · have e1 : (textS t ++ (be 8 z ++ be 2 z)).take (n - 4) = textS t ++ ((be 8 z ++ be 2 z).take (n - 4 - (textS t).length)) := by
        rw [List.take_append, List.take_of_length_le (by omega)]
      rw [e1] at e0 a2 a3
      obtain ⟨_, b2, b3⟩ := rtext_put t ((be 8 z ++ be 2 z).take (n - 4 - (textS t).length)) (by omega)
      by_cases h8 : n - 4 - (textS t).length < 8
      · obtain ⟨c, d⟩ := eight_short (l := (be 8 z ++ be 2 z).take (n - 4 - (textS t).length)) (by simp [be_length]; omega) br
        rw [e0]
        exact ⟨by rw [stepL, a2, b2, c, g], by rw [stepB, a2, a3, b2, b3, c, d, h]⟩
      · have e2 : (be 8 z ++ be 2 z).take (n - 4 - (textS t).length) = be 8 z ++ (be 2 z).take (n - 4 - (textS t).length - 8) := by
          rw [List.take_append, be_length, List.take_of_length_le (by rw [be_length]; omega)]
        obtain ⟨_, c2, c3⟩ := eight_put z ((be 2 z).take (n - 4 - (textS t).length - 8)) most40 (by unfold most40; omega) (by omega)
        obtain ⟨p, q, _⟩ := take_short (l := (be 2 z).take (n - 4 - (textS t).length - 8)) (n := 2) (by simp [be_length]; omega) br
        rw [e0]
        exact ⟨by rw [stepL, a2, b2, e2, c2, p], by rw [stepB, a2, a3, b2, b3, e2, c2, c3, q]⟩
def stepsL (l : List UInt8) : Nat → List UInt8
  | 0 => l
  | m + 1 => stepL (stepsL l m)
def stepsB (l : List UInt8) (br : Bool) : Nat → Bool
  | 0 => br
  | m + 1 => stepB (stepsL l m) (stepsB l br m)
theorem steps_front (l : List UInt8) (br : Bool) : ∀ m, stepsL (stepL l) m = stepsL l (m + 1) ∧ stepsB (stepL l) (stepB l br) m = stepsB l br (m + 1)
  | 0 => by simp only [stepsL, stepsB, and_self]
  | m + 1 => by
    obtain ⟨h1, h2⟩ := steps_front l br m
    exact ⟨by rw [stepsL, h1, ← stepsL], by rw [stepsB, h1, h2, ← stepsB]⟩
theorem steps_nil : ∀ m, stepsL [] m = [] ∧ stepsB [] true m = true
  | 0 => by simp only [stepsL, stepsB, and_self]
  | m + 1 => by
    obtain ⟨h1, h2⟩ := steps_nil m
    obtain ⟨h3, h4⟩ := step_nil true
    exact ⟨by rw [stepsL, h1, h3], by rw [stepsB, h1, h2, h4]⟩
/-- Cut short anywhere it is not whole. -/
theorem steps_cut (f : Nat → Nat) (g : Nat → List UInt8) (hf : ∀ i, f i < 4294967296) (hg : ∀ i, (g i).length ≤ 60) : ∀ (m i n : Nat), n < (pieces f g i m).length →
    stepsL ((pieces f g i m).take n) m = [] ∧ stepsB ((pieces f g i m).take n) false m = true
  | 0, i, n, h => by simp [pieces] at h
  | m + 1, i, n, h => by
    rw [pieces] at *
    have hs := steps_front ((piece (f i) (g i) ++ pieces f g (i + 1) m).take n) false m
    by_cases hn : n < (piece (f i) (g i)).length
    · rw [List.take_append_of_le_length (by omega)] at *
      obtain ⟨a, b⟩ := step_cut (f i) (g i) (hf i) (hg i) n hn false
      obtain ⟨c, d⟩ := steps_nil m
      rw [a, b] at hs
      exact ⟨by rw [← hs.1, c], by rw [← hs.2, d]⟩
    · have e : (piece (f i) (g i) ++ pieces f g (i + 1) m).take n = piece (f i) (g i) ++ (pieces f g (i + 1) m).take (n - (piece (f i) (g i)).length) := by
        rw [List.take_append, List.take_of_length_le (by omega)]
      rw [e] at hs ⊢
      obtain ⟨a, b⟩ := step_piece (f i) (g i) ((pieces f g (i + 1) m).take (n - (piece (f i) (g i)).length)) (hf i) (hg i) false
      obtain ⟨c, d⟩ := steps_cut f g hf hg m (i + 1) (n - (piece (f i) (g i)).length) (by rw [List.length_append] at h; omega)
      rw [a, b] at hs
      exact ⟨by rw [← hs.1, c], by rw [← hs.2, d]⟩
end Go.Proofs.Ytofafnobgkhdnaa
