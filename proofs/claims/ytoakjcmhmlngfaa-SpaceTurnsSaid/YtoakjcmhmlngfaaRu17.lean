
/- Taking: the document's, at this translation. -/
import Derived.Test.YtoakjcmhmlngfaaTn17
import Derived.Test.YtoakjcmhmlngfaaGv17
import Derived.Test.YtoakjcmhmlngfaaRt17
namespace Go.Proofs.Ytoakjcmhmlngfaa
open Go.RowKit

structure ToldX (w w' : World) (e : Ending) (M : List (List UInt8)) (S : List Int) (t : Bool) : Prop where
  is : ∃ A n c v, e = .returned (.tuple #[.slice A n c, v, .bool t]) ∧ IsG w' 1 encT A n M ∧ RG w' 1 encI v S
  below : Below w.heap.size w w'
theorem frees_add (s : List UInt8) (k : Nat) : frees s (k + 1) = if Bm.bit s k then frees s k else frees s k ++ [k] := by
  unfold frees
  rw [List.range_succ, List.filter_append]
  cases h : Bm.bit s k <;> simp [h]
theorem frees_ahead (s : List UInt8) {k z : Nat} (h : k ≤ z) : (frees s z).take (frees s k).length = frees s k := by
  obtain ⟨d, rfl⟩ := Nat.exists_eq_add_of_le h
  clear h
  induction d with
  | zero => exact List.take_length
  | succ d ih =>
    rw [← Nat.add_assoc, frees_add]
    split
    · exact ih
    · have hle : (frees s k).length ≤ (frees s (k + d)).length := by
        have := congrArg List.length ih
        rw [List.length_take] at this
        omega
      rw [List.take_append_of_le_length hle]
      exact ih
/-- The bit that is looked at is as it was. -/
theorem has_same {z : Nat} {s : List UInt8} (h : Good z s) {k r : Nat} (hk : k ≤ z) : Bm.bit (setAll s ((frees s k).take r)) k = Bm.bit s k := by
  have h1 : ∀ p ∈ (frees s k).take r, p < k := fun p hp => (mem_frees.1 (List.mem_of_mem_take hp)).1
  have := size_z z h.z4
  rw [bit_setAll (fun p hp => by have := h1 p hp; rw [h.len]; omega)]
  have h2 : k ∉ (frees s k).take r := fun e => by have := h1 k e; omega
  simp [h2]
/-- The step of a zone, where the places ahead of k were looked at and that is all, or there is enough. -/
theorem step_seen {l : Lay} {M : List (List UInt8)} {zn nn i at_ : Nat} {M1 : List (List UInt8)} {S1 : List Int} {s : List UInt8} {k : Nat} (hst : takeUp l M zn nn i = (M1, S1)) (ha : (zn + i) % 4 = at_) (hs : M1[at_]? = some s)
    (hk : k ≤ zN l) (hd : k = zN l ∨ nn - S1.length ≤ (frees s k).length) :
    takeUp l M zn nn (i + 1) = (M1.set at_ (setAll s ((frees s k).take (nn - S1.length))), S1 ++ ((frees s k).take (nn - S1.length)).map fun (p : Nat) => l.f + (at_ : Nat) * l.z + p) := by
  have e1 : M1.getD at_ [] = s := by rw [List.getD_eq_getElem?_getD, hs]; rfl
  have e2 : (frees s (zN l)).take (nn - S1.length) = (frees s k).take (nn - S1.length) := by
    rcases hd with hd | hd
    · rw [hd]
    · have h1 := frees_ahead s hk
      rw [← h1, List.take_take, Nat.min_eq_left hd]
  rw [takeUp_succ, hst, takeStep, ha]
  simp only [e1, e2]
end Go.Proofs.Ytoakjcmhmlngfaa
