/- PLAIN: what the document reads of an inode's bytes, number by number. -/
import Derived.Test.YtdlbibhekoobjaaRp14
namespace Go.Proofs.Ytdlbibhekoobjaa
open Go.RowKit

def brk (s : List UInt8) : Nat → Bool
  | 0 => takeB (pD s) (takeB (pC s) (takeB (pB s) false 2) 2) 4
  | k + 1 => takeB (left4 k (pE s)) (brk s k) 4
def xI (s : List UInt8) (j : Nat) : Ino := ⟨pk s, pl s, ps s, nums4 j (pE s)⟩
theorem takeB_no {l : List UInt8} {br : Bool} {n : Nat} (h : takeB l br n = false) : br = false ∧ n ≤ l.length := by
  unfold takeB at h
  split at h
  · exact ⟨h, by assumption⟩
  · cases h
theorem be_num4 : ∀ (k : Nat) (t : List UInt8), t.length = k → be k (num t) = t
  | 0, t, h => by rw [List.length_eq_zero_iff.1 h]; rfl
  | k + 1, t, h => by
    obtain ⟨a, b, rfl⟩ : ∃ a b, t = a ++ [b] := ⟨t.dropLast, t.getLast (by intro e; rw [e] at h; cases h), (List.dropLast_concat_getLast _).symm⟩
    have ha : a.length = k := by simpa using h
    rw [be, num_snoc, show (num a * 256 + b.toNat) / 256 = num a by have := b.toNat_lt; omega, be_num4 k a ha]
    congr 2
    apply UInt8.toNat_inj.1
    simp
/-- What was read whole is the number's bytes, and what is left. -/
theorem whole {l : List UInt8} {n : Nat} (h : n ≤ l.length) : be n (num (takeS l n)) ++ takeL l n = l := by
  rw [takeS, if_pos h, takeL, if_pos h, be_num4 n _ (by rw [List.length_take]; omega), List.take_append_drop]
theorem fours_whole (l : List UInt8) (b : Nat → Bool) (hb : ∀ k, b (k + 1) = takeB (left4 k l) (b k) 4) : ∀ j, b j = false → fours (nums4 j l) ++ left4 j l = l ∧ b 0 = false
  | 0, h => ⟨rfl, h⟩
  | j + 1, h => by
    rw [hb] at h
    obtain ⟨h1, h2⟩ := takeB_no h
    obtain ⟨e, e0⟩ := fours_whole l b hb j h1
    refine ⟨?_, e0⟩
    rw [nums4, fours_append, left4, List.append_assoc]
    have hw := whole h2
    have e2 : fours [((num (takeS (left4 j l) 4) : Nat) : Int)] = be 4 (num (takeS (left4 j l) 4)) := by simp [fours]
    rw [e2, hw, e]
theorem xread_yes {s : List UInt8} (h4 : 4 ≤ s.length) (hs : s.take 4 = signI) {j : Nat} (hb : brk s j = false) (hl : left4 j (pE s) = []) : inoS (xI s j) = s := by
  obtain ⟨e, e0⟩ := fours_whole (pE s) (brk s) (fun _ => rfl) j hb
  rw [hl, List.append_nil] at e
  obtain ⟨e1, h3⟩ := takeB_no e0
  obtain ⟨e2, h2⟩ := takeB_no e1
  obtain ⟨_, h1⟩ := takeB_no e2
  have w1 := whole h1
  have w2 := whole h2
  have w3 := whole h3
  have hB : pB s = s.drop 4 := by rw [pB, takeL, if_pos h4]
  show headI (xI s j) ++ fours (nums4 j (pE s)) = s
  rw [e]
  have ek : (xI s j).k.toNat = num (takeS (pB s) 2) := by simp [xI, pk, textN]
  have el : (xI s j).l.toNat = num (takeS (pC s) 2) := by simp [xI, pl, textN]
  have es : (xI s j).s.toNat = num (takeS (pD s) 4) := by simp [xI, ps]
  rw [headI, ek, el, es, ← hs]
  calc s.take 4 ++ (be 2 (num (takeS (pB s) 2)) ++ (be 2 (num (takeS (pC s) 2)) ++ be 4 (num (takeS (pD s) 4)))) ++ pE s
      = s.take 4 ++ (be 2 (num (takeS (pB s) 2)) ++ (be 2 (num (takeS (pC s) 2)) ++ (be 4 (num (takeS (pD s) 4)) ++ pE s))) := by simp only [List.append_assoc]
    _ = s.take 4 ++ (be 2 (num (takeS (pB s) 2)) ++ (be 2 (num (takeS (pC s) 2)) ++ pD s)) := by rw [show be 4 (num (takeS (pD s) 4)) ++ pE s = pD s from w3]
    _ = s.take 4 ++ (be 2 (num (takeS (pB s) 2)) ++ pC s) := by rw [show be 2 (num (takeS (pC s) 2)) ++ pD s = pC s from w2]
    _ = s.take 4 ++ pB s := by rw [show be 2 (num (takeS (pB s) 2)) ++ pC s = pB s from w1]
    _ = s := by rw [hB, List.take_append_drop]
theorem takeB_put {k : Nat} {z : Int} {r : List UInt8} {br : Bool} : takeB (be k z.toNat ++ r) br k = br := by
  rw [takeB, if_pos (by simp [be_length])]
/-- Of the bytes of an inode that may be, nothing breaks. -/
theorem brk_of {x : Ino} (hx : InoOk x) : ∀ k, k ≤ x.d.length → brk (inoS x) k = false
  | 0, _ => by
    have e : pB (inoS x) = be 2 x.k.toNat ++ (be 2 x.l.toNat ++ (be 4 x.s.toNat ++ fours x.d)) := by
      rw [pB, inoS, headI, takeL, if_pos (by simp [signI]), show signI ++ (be 2 x.k.toNat ++ (be 2 x.l.toNat ++ be 4 x.s.toNat)) ++ fours x.d = signI ++ (be 2 x.k.toNat ++ (be 2 x.l.toNat ++ (be 4 x.s.toNat ++ fours x.d))) by simp only [List.append_assoc]]
      rfl
    have bk : 0 ≤ x.k ∧ x.k < 65536 := by rcases hx.k with e | e <;> omega
    have k1 := rd2 bk.1 bk.2 (be 2 x.l.toNat ++ (be 4 x.s.toNat ++ fours x.d))
    have l1 := rd2 (z := x.l) (by have := hx.l; omega) (by have := hx.l; omega) (be 4 x.s.toNat ++ fours x.d)
    have ec : pC (inoS x) = be 2 x.l.toNat ++ (be 4 x.s.toNat ++ fours x.d) := by rw [pC, e, k1.2]
    have ed : pD (inoS x) = be 4 x.s.toNat ++ fours x.d := by rw [pD, ec, l1.2]
    rw [brk, ed, ec, e, takeB_put, takeB_put, takeB_put]
  | k + 1, h => by
    have h0 := brk_of hx k (by omega)
    have h1 := (left4_fours x.d hx.b k (by omega)).1
    have hd : x.d.drop k = x.d[k] :: x.d.drop (k + 1) := List.drop_eq_getElem_cons (by omega)
    rw [brk, (parts_of hx).2.2.2, h1, hd, h0, show fours (x.d[k] :: x.d.drop (k + 1)) = be 4 x.d[k].toNat ++ fours (x.d.drop (k + 1)) from rfl, takeB_put]
/-- Behind the loop: read, or refused. -/
theorem xreads {s : List UInt8} (h4 : 4 ≤ s.length) (hs : s.take 4 = signI) {j : Nat} (hex : j = 13 ∨ left4 j (pE s) = []) (hne : ∀ k, k < j → left4 k (pE s) ≠ []) :
    ((endE (left4 j (pE s)) (brk s j) = 0 ∧ inoB (xI s j) = true) → Reads s (xI s j) 0) ∧ (¬ (endE (left4 j (pE s)) (brk s j) = 0 ∧ inoB (xI s j) = true) → Reads s .zero 10) := by
  constructor
  · rintro ⟨h1, h2⟩
    have h3 : brk s j = false ∧ left4 j (pE s) = [] := by
      unfold endE at h1
      split at h1
      · assumption
      · cases h1
    exact ⟨.inl ⟨rfl, h2, xread_yes h4 hs h3.1 h3.2⟩⟩
  · intro hno
    refine ⟨.inr ⟨rfl, rfl, fun Y hY e => hno ?_⟩⟩
    have ok := InoOk.of hY
    obtain ⟨p1, p2, p3, p4⟩ := parts_of ok
    rw [e] at p1 p2 p3 p4
    have hlen := ok.len
    have hle : j ≤ Y.d.length := by
      rcases Nat.lt_or_ge Y.d.length j with h | h
      · refine (hne Y.d.length h ?_).elim
        rw [p4, (left4_fours Y.d ok.b Y.d.length (Nat.le_refl _)).1, List.drop_length]
        rfl
      · exact h
    have hl : left4 j (pE s) = [] := by
      rcases hex with h | h
      · omega
      · exact h
    have hjl : j = Y.d.length := by
      have h := (left4_fours Y.d ok.b j hle).1
      rw [← p4, hl] at h
      have h2 := congrArg List.length h
      rw [fours_length, List.length_drop] at h2
      simp at h2
      omega
    have hx : xI s j = Y := by
      have h := (left4_fours Y.d ok.b j hle).2
      rw [xI, p1, p2, p3, p4, h, hjl, List.take_length]
    have hb : brk s j = false := by have := brk_of ok j hle; rwa [e] at this
    exact ⟨by rw [hl, hb]; rfl, by rw [hx]; exact hY⟩
end Go.Proofs.Ytdlbibhekoobjaa
