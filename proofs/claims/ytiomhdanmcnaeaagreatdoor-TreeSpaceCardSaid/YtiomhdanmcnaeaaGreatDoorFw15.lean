
/- Short lists; whether two are the same; the document's lists, at this translation. -/
import Derived.Test.YtiomhdanmcnaeaaGreatDoorPp15
import Derived.Laws.StructEq
namespace Go.Proofs.YtiomhdanmcnaeaaGreatDoor
open Go.RowKit

theorem entNeq (a b : Ent) (w : World) : (binOp .neq 82 (.agg #[.string (str a.1), .int .i64 a.2]) (.agg #[.string (str b.1), .int .i64 b.2])).run Tryz.prog w = .ok (.bool (!decide (a = b))) w := by
  have hu : Tryz.prog.underlying 82 = some (.struct (Tryz.prog.fieldsOf 82)) := by kernel_rfl
  have hp : Tryz.prog.stoodInHeld 82 = false := by kernel_rfl
  rw [run_neq_struct, run_equalIn_agg _ _ _ _ _ hu hp]
  obtain ⟨a1, a2⟩ := a
  obtain ⟨b1, b2⟩ := b
  by_cases h1 : a1 = b1
  · subst h1
    by_cases h2 : a2 = b2
    · subst h2
      simp [Program.fieldsOf, Tryz.underlying82, Tryz.underlying3, Tryz.underlying9, go_sem, part]
    · simp [Program.fieldsOf, Tryz.underlying82, Tryz.underlying3, Tryz.underlying9, go_sem, part, h2]
  · simp [Program.fieldsOf, Tryz.underlying82, Tryz.underlying3, Tryz.underlying9, go_sem, part, h1]
/-! ### short lists -/
def fewE (e : Ent) : Ent := (e.1.take 60, e.2)
def fewN (l : List Ent) : List Ent := (l.take 30).map fewE
theorem fewN_length (l : List Ent) : (fewN l).length ≤ 30 := by simp [fewN]; omega
theorem fewN_len (l : List Ent) : ∀ e ∈ fewN l, e.1.length ≤ 60 := by
  intro e he
  obtain ⟨x, _, rfl⟩ := List.mem_map.1 he
  simp [fewE]; omega
end Go.Proofs.YtiomhdanmcnaeaaGreatDoor
