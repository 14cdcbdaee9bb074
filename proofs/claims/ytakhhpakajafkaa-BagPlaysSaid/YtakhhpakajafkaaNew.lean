/- A new network. -/
import Derived.Test.YtakhhpakajafkaaNet
namespace Go.Proofs.Ytakhhpakajafkaa
open Go.RowKit

def oneHead (b : Nat) : Nat → Role := fun g => if g = b then .head else .no
theorem oneHead_ne {b g : Nat} (h : oneHead b g ≠ .no) : g = b := by
  unfold oneHead at h
  split at h
  · assumption
  · exact absurd rfl h
theorem isN_made (w : World) (A : Array Value) (t : TypeId) (hA : A = Array.replicate 64 (.slice none 0 0)) : IsN (w.alloc (.cells A t)) w.heap.size (oneHead w.heap.size) NS.none := by
  subst hA
  refine ⟨fun _ => .slice none 0 0, ⟨fun k hk => ?_, fun k hk => ?_, if_pos rfl, fun k _ => row_nil _ _, fun k g _ hg => ?_, fun g hg => ?_, fun k => Nat.zero_le _, fun i _ => rfl⟩⟩
  · rw [World.cell?_alloc_at _ _ _ _ rfl]
    simp [hk]
  · exact World.frozen?_alloc_at _ _ _ _ rfl
  · cases hg
  · rw [oneHead_ne hg]; simp
def Fresh (w : World) (e : Ending) (w' : World) : Prop := e = .returned (.pointer (some ⟨w.heap.size, 0, none⟩)) ∧ IsN w' w.heap.size (oneHead w.heap.size) NS.none ∧ Below w.heap.size w w' ∧ w'.heap.size = w.heap.size + 1
theorem New_any (w : World) :
    Calls Try.prog 11 #[] w (Fresh w) := by
  go_enter Try.func11, Try.ntmps11
  go_wp2
  go_ret
  exact ⟨rfl, isN_made w _ _ rfl, (Below.refl _ _).alloc (Nat.le_refl _) _, by simp⟩
end Go.Proofs.Ytakhhpakajafkaa
