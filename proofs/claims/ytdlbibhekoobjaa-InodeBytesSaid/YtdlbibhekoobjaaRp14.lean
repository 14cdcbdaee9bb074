/- PLAIN: what is read of an inode's bytes. -/
import Derived.Test.YtdlbibhekoobjaaIv14
namespace Go.Proofs.Ytdlbibhekoobjaa
open Go.RowKit

/-- What is left behind so many numbers of four bytes, and the numbers. -/
def left4 : Nat → List UInt8 → List UInt8
  | 0, l => l
  | k + 1, l => takeL (left4 k l) 4
def nums4 : Nat → List UInt8 → List Int
  | 0, _ => []
  | k + 1, l => nums4 k l ++ [((num (takeS (left4 k l) 4) : Nat) : Int)]
theorem nums4_length : ∀ k l, (nums4 k l).length = k
  | 0, _ => rfl
  | k + 1, l => by rw [nums4, List.length_append, nums4_length k l]; rfl
theorem left4_fours (d : List Int) (hb : ∀ z ∈ d, 0 ≤ z ∧ z < 65536) : ∀ k, k ≤ d.length → left4 k (fours d) = fours (d.drop k) ∧ nums4 k (fours d) = d.take k
  | 0, _ => ⟨rfl, by simp [nums4]⟩
  | k + 1, h => by
    obtain ⟨h1, h2⟩ := left4_fours d hb k (by omega)
    have hd : d.drop k = d[k] :: d.drop (k + 1) := List.drop_eq_getElem_cons (by omega)
    have hz := hb d[k] (List.getElem_mem _)
    have e : fours (d.drop k) = be 4 d[k].toNat ++ fours (d.drop (k + 1)) := by rw [hd]; rfl
    obtain ⟨r1, r2⟩ := rd4 hz.1 (by omega) (fours (d.drop (k + 1)))
    rw [left4, nums4, h1, h2, e, r1, r2]
    exact ⟨rfl, by rw [List.take_succ_eq_append_getElem (by omega)]⟩
/-- The parts that are read. -/
def pB (s : List UInt8) : List UInt8 := takeL s 4
def pC (s : List UInt8) : List UInt8 := takeL (pB s) 2
def pD (s : List UInt8) : List UInt8 := takeL (pC s) 2
def pE (s : List UInt8) : List UInt8 := takeL (pD s) 4
def pk (s : List UInt8) : Int := ((textN (pB s) : Nat) : Int)
def pl (s : List UInt8) : Int := ((textN (pC s) : Nat) : Int)
def ps (s : List UInt8) : Int := ((num (takeS (pD s) 4) : Nat) : Int)
theorem pk_lt (s : List UInt8) : 0 ≤ pk s ∧ pk s < 65536 := by have := num_takeS (pB s) 2; simp only [pk, textN]; omega
theorem pl_lt (s : List UInt8) : 0 ≤ pl s ∧ pl s < 65536 := by have := num_takeS (pC s) 2; simp only [pl, textN]; omega
theorem ps_lt (s : List UInt8) : 0 ≤ ps s ∧ ps s < 4294967296 := by have := num_takeS (pD s) 4; simp only [ps]; omega
/-- Of the bytes of an inode that may be, the parts are the inode's. -/
theorem parts_of {x : Ino} (hx : InoOk x) : pk (inoS x) = x.k ∧ pl (inoS x) = x.l ∧ ps (inoS x) = x.s ∧ pE (inoS x) = fours x.d := by
  have e : pB (inoS x) = be 2 x.k.toNat ++ (be 2 x.l.toNat ++ (be 4 x.s.toNat ++ fours x.d)) := by
    rw [pB, inoS, headI, takeL, if_pos (by simp [signI]), show signI ++ (be 2 x.k.toNat ++ (be 2 x.l.toNat ++ be 4 x.s.toNat)) ++ fours x.d = signI ++ (be 2 x.k.toNat ++ (be 2 x.l.toNat ++ (be 4 x.s.toNat ++ fours x.d))) by simp only [List.append_assoc]]
    rfl
  have bk : 0 ≤ x.k ∧ x.k < 65536 := by rcases hx.k with e | e <;> omega
  have k1 := rd2 bk.1 bk.2 (be 2 x.l.toNat ++ (be 4 x.s.toNat ++ fours x.d))
  have l1 := rd2 (z := x.l) (by have := hx.l; omega) (by have := hx.l; omega) (be 4 x.s.toNat ++ fours x.d)
  have s1 := rd4 (z := x.s) hx.s0 (by have := hx.s1; omega) (fours x.d)
  have ec : pC (inoS x) = be 2 x.l.toNat ++ (be 4 x.s.toNat ++ fours x.d) := by rw [pC, e, k1.2]
  have ed : pD (inoS x) = be 4 x.s.toNat ++ fours x.d := by rw [pD, ec, l1.2]
  refine ⟨?_, ?_, ?_, ?_⟩
  · rw [pk, e]; exact k1.1
  · rw [pl, ec]; exact l1.1
  · rw [ps, ed]; exact s1.1
  · rw [pE, ed]; exact s1.2
/-- What the program reads: as many numbers as the size needs. -/
def rdK (s : List UInt8) : Nat := (needI (min (ps s) 6144)).toNat
def rdI (s : List UInt8) : Ino := ⟨pk s, pl s, ps s, nums4 (rdK s) (pE s)⟩
theorem rdK_le (s : List UInt8) : rdK s ≤ 12 ∧ ((rdK s : Nat) : Int) = needI (min (ps s) 6144) := by
  have h := needI_small (n := min (ps s) 6144) (by omega)
  unfold rdK
  omega
theorem rdI_of {x : Ino} (hx : InoOk x) : rdI (inoS x) = x := by
  obtain ⟨h1, h2, h3, h4⟩ := parts_of hx
  have hk : rdK (inoS x) = x.d.length := by
    have h5 := (rdK_le (inoS x)).2
    have h6 := hx.d
    have h7 := hx.s1
    rw [h3, show min x.s 6144 = x.s by omega, ← h6] at h5
    omega
  rw [rdI, h1, h2, h3, h4, hk, (left4_fours x.d hx.b x.d.length (Nat.le_refl _)).2, List.take_length]
/-- What a reading gives: the inode whose bytes these are, or none. -/
structure Reads (s : List UInt8) (X : Ino) (E : Int) : Prop where
  is : (E = 0 ∧ inoB X = true ∧ inoS X = s) ∨ (E = 10 ∧ X = .zero ∧ ∀ Y, inoB Y = true → inoS Y ≠ s)
theorem Reads.same {s : List UInt8} {X Y : Ino} {E F : Int} (h : Reads s X E) (k : Reads s Y F) : X = Y ∧ E = F := by
  rcases h.is with ⟨h1, h2, h3⟩ | ⟨h1, h2, h3⟩ <;> rcases k.is with ⟨k1, k2, k3⟩ | ⟨k1, k2, k3⟩
  · exact ⟨inoS_inj (InoOk.of h2) (InoOk.of k2) (h3.trans k3.symm), h1.trans k1.symm⟩
  · exact (k3 X h2 h3).elim
  · exact (h3 Y k2 k3).elim
  · exact ⟨h2.trans k2.symm, h1.trans k1.symm⟩
theorem Reads.back {x X : Ino} {E : Int} (hx : inoB x = true) (h : Reads (inoS x) X E) : X = x ∧ E = 0 := h.same ⟨.inl ⟨rfl, hx, rfl⟩⟩
theorem reads_yes {s : List UInt8} (h : inoB (rdI s) = true) (h2 : inoBy (rdI s) = s) : Reads s (rdI s) 0 := ⟨.inl ⟨rfl, h, by rw [inoBy, if_pos h] at h2; exact h2⟩⟩
theorem reads_no {s : List UInt8} (h : ¬ (inoB (rdI s) = true ∧ inoBy (rdI s) = s)) : Reads s .zero 10 := ⟨.inr ⟨rfl, rfl, fun Y hY e => h (by
  have hr : rdI s = Y := by rw [← e]; exact rdI_of (InoOk.of hY)
  rw [hr]
  exact ⟨hY, by rw [inoBy, if_pos hY, e]⟩)⟩⟩
end Go.Proofs.Ytdlbibhekoobjaa
