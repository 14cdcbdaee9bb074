/- PLAIN: an inode's bytes, and what is read of bytes. -/
import Derived.Test.YtdlbibhekoobjaaIn14
namespace Go.Proofs.Ytdlbibhekoobjaa
open Go.RowKit

def signI : List UInt8 := [76, 71, 73, 49]
/-- Numbers, four bytes each. -/
def fours (d : List Int) : List UInt8 := d.flatMap fun z => be 4 z.toNat
theorem fours_append (a b : List Int) : fours (a ++ b) = fours a ++ fours b := List.flatMap_append
theorem fours_length (d : List Int) : (fours d).length = 4 * d.length := by
  induction d with
  | nil => rfl
  | cons z d ih =>
    show (be 4 z.toNat ++ fours d).length = _
    rw [List.length_append, be_length, ih, List.length_cons]; omega
def headI (x : Ino) : List UInt8 := signI ++ (be 2 x.k.toNat ++ (be 2 x.l.toNat ++ be 4 x.s.toNat))
def inoS (x : Ino) : List UInt8 := headI x ++ fours x.d
def inoBy (x : Ino) : List UInt8 := if inoB x then inoS x else []
theorem headI_length (x : Ino) : (headI x).length = 12 := by simp [headI, signI, be_length]
theorem inoS_length (x : Ino) : (inoS x).length = 12 + 4 * x.d.length := by rw [inoS, List.length_append, headI_length, fours_length]
/-- What may be said of one that may be. -/
structure InoOk (x : Ino) : Prop where
  k : x.k = 1 ∨ x.k = 2
  l : 1 ≤ x.l ∧ x.l ≤ 1000
  s0 : 0 ≤ x.s
  s1 : x.s ≤ 6144
  d : (x.d.length : Int) = needI x.s
  b : ∀ z ∈ x.d, 0 ≤ z ∧ z < 65536
theorem anyI_no {Q : Nat → Bool} {n : Nat} (h : anyI Q n = false) {i : Nat} (hi : i < n) : Q i = false := by
  cases hq : Q i with
  | false => rfl
  | true => rw [anyI_yes hq hi] at h; cases h
theorem InoOk.of {x : Ino} (h : inoB x = true) : InoOk x := by
  simp only [inoB, Bool.and_eq_true, decide_eq_true_eq, Bool.not_eq_true'] at h
  obtain ⟨h1, h2, h3, h4, h5⟩ := h
  have hk : (x.k = 1 ∨ x.k = 2) ∧ 1 ≤ x.l ∧ x.l ≤ 1000 := by
    unfold linkB at h1
    split at h1
    · rename_i h
      simp only [Bool.and_eq_true, decide_eq_true_eq] at h1
      exact ⟨.inl h, h1⟩
    · split at h1
      · rename_i h
        simp only [decide_eq_true_eq] at h1
        exact ⟨.inr h, by omega, by omega⟩
      · cases h1
  refine ⟨hk.1, hk.2, h2, h3, h4, fun z hz => ?_⟩
  obtain ⟨i, hi, he⟩ := List.mem_iff_getElem.1 hz
  have hq := anyI_no h5 hi
  rw [badQ, List.getElem?_eq_getElem hi, he] at hq
  simp only [Bool.or_eq_false_iff, decide_eq_false_iff_not] at hq
  omega
theorem InoOk.len {x : Ino} (h : InoOk x) : x.d.length ≤ 12 := by
  have := h.d
  have := (needI_small (n := x.s) h.s1).2
  omega
/-- Of an inode's bytes the first parts are its numbers. -/
theorem rd2 {z : Int} (h0 : 0 ≤ z) (h1 : z < 65536) (r : List UInt8) : ((num (takeS (be 2 z.toNat ++ r) 2) : Nat) : Int) = z ∧ takeL (be 2 z.toNat ++ r) 2 = r := by
  obtain ⟨a, b, _⟩ := take_put 2 z.toNat r (by simp; omega)
  exact ⟨by rw [a]; omega, b⟩
theorem rd4 {z : Int} (h0 : 0 ≤ z) (h1 : z < 4294967296) (r : List UInt8) : ((num (takeS (be 4 z.toNat ++ r) 4) : Nat) : Int) = z ∧ takeL (be 4 z.toNat ++ r) 4 = r := by
  obtain ⟨a, b, _⟩ := take_put 4 z.toNat r (by simp; omega)
  exact ⟨by rw [a]; omega, b⟩
/-- No two inodes that may be have the same bytes. -/
theorem inoS_inj {x y : Ino} (hx : InoOk x) (hy : InoOk y) (h : inoS x = inoS y) : x = y := by
  have e : ∀ z : Ino, InoOk z → takeL (inoS z) 4 = be 2 z.k.toNat ++ (be 2 z.l.toNat ++ (be 4 z.s.toNat ++ fours z.d)) := fun z hz => by
    rw [inoS, headI, takeL, if_pos (by simp [signI]), show signI ++ (be 2 z.k.toNat ++ (be 2 z.l.toNat ++ be 4 z.s.toNat)) ++ fours z.d = signI ++ (be 2 z.k.toNat ++ (be 2 z.l.toNat ++ (be 4 z.s.toNat ++ fours z.d))) by simp only [List.append_assoc]]
    rfl
  have h1 := congrArg (fun l => takeL l 4) h
  simp only [e x hx, e y hy] at h1
  have bk : ∀ z : Ino, InoOk z → 0 ≤ z.k ∧ z.k < 65536 := fun z hz => by rcases hz.k with e | e <;> omega
  have k1 := rd2 (bk x hx).1 (bk x hx).2 (be 2 x.l.toNat ++ (be 4 x.s.toNat ++ fours x.d))
  have k2 := rd2 (bk y hy).1 (bk y hy).2 (be 2 y.l.toNat ++ (be 4 y.s.toNat ++ fours y.d))
  rw [h1] at k1
  have ek : x.k = y.k := k1.1.symm.trans k2.1
  have h2 := k1.2.symm.trans k2.2
  have l1 := rd2 (z := x.l) (by have := hx.l; omega) (by have := hx.l; omega) (be 4 x.s.toNat ++ fours x.d)
  have l2 := rd2 (z := y.l) (by have := hy.l; omega) (by have := hy.l; omega) (be 4 y.s.toNat ++ fours y.d)
  rw [h2] at l1
  have el : x.l = y.l := l1.1.symm.trans l2.1
  have h3 := l1.2.symm.trans l2.2
  have s1 := rd4 (z := x.s) hx.s0 (by have := hx.s1; omega) (fours x.d)
  have s2 := rd4 (z := y.s) hy.s0 (by have := hy.s1; omega) (fours y.d)
  rw [h3] at s1
  have es : x.s = y.s := s1.1.symm.trans s2.1
  have h4 := s1.2.symm.trans s2.2
  have key : ∀ (a b : List Int), (∀ z ∈ a, 0 ≤ z ∧ z < 65536) → (∀ z ∈ b, 0 ≤ z ∧ z < 65536) → fours a = fours b → a = b := by
    intro a
    induction a with
    | nil =>
      intro b _ _ hab
      have := congrArg List.length hab
      rw [fours_length, fours_length] at this
      exact (List.eq_nil_of_length_eq_zero (by simp at this; omega)).symm
    | cons p a ih =>
      intro b ha hb hab
      cases b with
      | nil =>
        have := congrArg List.length hab
        rw [fours_length, fours_length] at this
        simp at this
      | cons q b =>
        have hab' : be 4 p.toNat ++ fours a = be 4 q.toNat ++ fours b := hab
        have p1 := rd4 (z := p) (ha p (by simp)).1 (by have := (ha p (by simp)).2; omega) (fours a)
        have p2 := rd4 (z := q) (hb q (by simp)).1 (by have := (hb q (by simp)).2; omega) (fours b)
        rw [hab'] at p1
        rw [p1.1.symm.trans p2.1, ih b (fun z hz => ha z (by simp [hz])) (fun z hz => hb z (by simp [hz])) (p1.2.symm.trans p2.2)]
  have ed : x.d = y.d := key _ _ hx.b hy.b h4
  obtain ⟨a, b, c, d⟩ := x
  obtain ⟨a', b', c', d'⟩ := y
  simp only at ek el es ed
  rw [ek, el, es, ed]
end Go.Proofs.Ytdlbibhekoobjaa
