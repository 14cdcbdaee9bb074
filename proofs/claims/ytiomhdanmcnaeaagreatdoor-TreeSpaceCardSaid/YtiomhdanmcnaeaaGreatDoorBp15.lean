/- PLAIN: which lists are folders', and their bytes. -/
import Derived.Test.YtiomhdanmcnaeaaGreatDoorFe15
namespace Go.Proofs.YtiomhdanmcnaeaaGreatDoor
open Go.RowKit

/-! ### Go's order of texts -/
theorem bless_conv : ∀ a b : List UInt8, (!(Op.bytesLess a b)) = (Op.bytesLess b a || b == a)
  | [], [] => rfl
  | _ :: _, [] => by simp [Op.bytesLess]
  | [], _ :: _ => by simp [Op.bytesLess]
  | x :: a, y :: b => by
    have ih := bless_conv a b
    simp only [Op.bytesLess]
    rcases Nat.lt_trichotomy x.toNat y.toNat with h | h | h
    · have h1 : x < y := UInt8.lt_iff_toNat_lt.2 h
      have h2 : ¬ y < x := fun e => by have := UInt8.lt_iff_toNat_lt.1 e; omega
      have h3 : (y == x) = false := by
        rw [beq_eq_false_iff_ne]; rintro rfl; omega
      simp [h1, h2, h3]
    · obtain rfl : x = y := UInt8.toNat_inj.1 h
      have h2 : ¬ x < x := fun e => by have := UInt8.lt_iff_toNat_lt.1 e; omega
      simpa [h2] using ih
    · have h1 : y < x := UInt8.lt_iff_toNat_lt.2 h
      have h2 : ¬ x < y := fun e => by have := UInt8.lt_iff_toNat_lt.1 e; omega
      have h3 : (x == y) = false := by
        rw [beq_eq_false_iff_ne]; rintro rfl; omega
      simp [h1, h2, h3]
def leB (a b : List UInt8) : Bool := Op.bytesLess a b || a == b
/-! ### a folder's list -/
def lastN (l : List Ent) : Nat → List UInt8
  | 0 => []
  | j + 1 => (l.getD j ([], 0)).1
def wrongE (last : List UInt8) (e : Ent) : Bool := !nameB e.1 || (leB e.1 last || (decide (e.2 < 0) || decide (65536 ≤ e.2)))
def wrongN (l : List Ent) (j : Nat) : Bool := wrongE (lastN l j) (l.getD j ([], 0))
def rightN (l : List Ent) : Bool := (List.range l.length).all fun j => !wrongN l j
theorem rightN_iff {l : List Ent} : rightN l = true ↔ ∀ j, j < l.length → wrongN l j = false := by
  simp [rightN]
theorem getD_of {α : Type} {l : List α} {j : Nat} {x d : α} (h : l[j]? = some x) : l.getD j d = x := by rw [List.getD_eq_getElem?_getD, h]; rfl
theorem right_ent {l : List Ent} (h : rightN l = true) {e : Ent} (he : e ∈ l) : nameB e.1 = true ∧ 0 ≤ e.2 ∧ e.2 < 65536 := by
  obtain ⟨j, hj, rfl⟩ := List.getElem_of_mem he
  have h1 := rightN_iff.1 h j hj
  rw [wrongN, getD_of (List.getElem?_eq_getElem hj), wrongE] at h1
  simp only [Bool.or_eq_false_iff, Bool.not_eq_false', decide_eq_false_iff_not] at h1
  exact ⟨h1.1, by omega, by omega⟩
/-! ### its bytes -/
def partsE (e : Ent) : List (List UInt8) := [be 2 e.1.length ++ e.1, be 4 e.2.toNat]
def partsN (l : List Ent) : List (List UInt8) := l.flatMap partsE
def bytesN (l : List Ent) : List UInt8 := (partsN l).flatten
theorem partsN_step {l : List Ent} {j : Nat} {e : Ent} (h : l[j]? = some e) : partsN (l.take (j + 1)) = partsN (l.take j) ++ partsE e := by
  rw [List.take_add_one, h]
  simp [partsN]
theorem partsN_len (l : List Ent) : (partsN l).length = 2 * l.length := by
  induction l with
  | nil => rfl
  | cons a l ih =>
    have : (partsN (a :: l)).length = 2 + (partsN l).length := by simp [partsN, partsE]; omega
    rw [this, ih, List.length_cons]; omega
theorem bytesN_len (l : List Ent) : (bytesN l).length = sizeN l := by
  induction l with
  | nil => rfl
  | cons a l ih =>
    have h1 : bytesN (a :: l) = (be 2 a.1.length ++ a.1) ++ (be 4 a.2.toNat ++ bytesN l) := by simp [bytesN, partsN, partsE]
    have h2 : sizeN (a :: l) = (a.1.length + 6) + sizeN l := by simp [sizeN]
    rw [h1, h2, ← ih]
    simp [be_length]
    omega
theorem right_size {l : List Ent} (h : rightN l = true) : sizeN l ≤ 36 * l.length := by
  have := sizeN_le (l := l) (m := 30) (fun e he => (name_some (right_ent h he).1).2)
  omega
def bytesV (l : List Ent) : List UInt8 := if rightN l then bytesN l else []
def bytesW (l : List Ent) : Int := if rightN l then 0 else 1
end Go.Proofs.YtiomhdanmcnaeaaGreatDoor
