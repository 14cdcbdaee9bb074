
/- A folder's list as bytes, at this translation. -/
import Derived.Test.YtiomhdanmcnaeaaGreatDoorBp15
import Derived.Lib.Join
import Derived.Test.YtiomhdanmcnaeaaGreatDoorPack
namespace Go.Proofs.YtiomhdanmcnaeaaGreatDoor
open Go.RowKit

/-- The last name so far lies in a cell of its own. -/
structure LastAt (u : World) (q : Nat) (s : List UInt8) : Prop where
  cell : u.cell? ⟨q, 0, none⟩ = some (.string (str s))
  soft : u.frozen? ⟨q, 0, none⟩ = false
theorem LastAt.below {u u' : World} {q : Nat} {s : List UInt8} (h : LastAt u q s) (b : Below u.heap.size u u') : LastAt u' q s :=
  ⟨(b.cell (p := ⟨q, 0, none⟩) (lt_of_cell h.cell)).trans h.cell, ((Mod.of_below (S := fun _ => False) b).frozen (p := ⟨q, 0, none⟩) (lt_of_cell h.cell) id).trans h.soft⟩
theorem lastN_succ {l : List Ent} {j : Nat} {z : Ent} (h : l[j]? = some z) : lastN l (j + 1) = z.1 := by rw [lastN, getD_of h]
theorem t_two (w : World) (x y : List UInt8) (ty : TypeId) : IsG (w.alloc (.cells #[.string (str x), .string (str y)] ty)) 1 encT (some ⟨w.heap.size, 0, none⟩) 2 [x, y] := by
  refine ⟨rfl, by decide, fun _ => ⟨_, 0, rfl, by simp, fun i a j u hi hj => ?_⟩⟩
  match i, j, hi, hj with
  | 0, 0, hi, hj => simp at hi; subst hi; simp [encT] at hj; subst hj; simp [go_sem]
  | 1, 0, hi, hj => simp at hi; subst hi; simp [encT] at hj; subst hj; simp [go_sem]
  | i + 2, _, hi, _ => simp at hi
  | _, j + 1, _, hj => simp [encT] at hj
theorem join_none : ∀ P : List (List UInt8), Lib.join P [] = P.flatten
  | [] => rfl
  | x :: r => by
    rw [Lib.join_cons, Lib.joinTail, List.flatten_cons]
    congr 1
    simp
end Go.Proofs.YtiomhdanmcnaeaaGreatDoor
