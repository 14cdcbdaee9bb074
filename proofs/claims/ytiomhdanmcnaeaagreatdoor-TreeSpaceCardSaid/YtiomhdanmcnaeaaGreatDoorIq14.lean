
/- What package inode and the document give of needs and pieces, at this translation. -/
import Derived.Test.YtiomhdanmcnaeaaGreatDoorIp14
import Derived.Test.YtiomhdanmcnaeaaGreatDoorGs11
import Derived.Deep.CutBlock
import Derived.Deep.DeepCutAuto
namespace Go.Proofs.YtiomhdanmcnaeaaGreatDoor
open Go.RowKit

theorem wf64 {n : Int} (h : (Lit.int .i64 n).wf = true) : -9223372036854775808 ≤ n ∧ n ≤ 9223372036854775807 := by
  have h2 : IntKind.i64.min = -9223372036854775808 := by decide
  have h3 : IntKind.i64.max = 9223372036854775807 := by decide
  simp [Lit.wf, h2, h3] at h
  exact h
theorem Need_any (n : Int) (hn : (Lit.int .i64 n).wf = true) (w : World) :
    Calls Tryz.prog 94 #[.int .i64 n] w fun e w' => e = .returned (.int .i64 (needI n)) ∧ w = w' := by
  obtain ⟨g0, g1⟩ := wf64 hn
  clear hn
  by_cases h : n < 1
  · rw [needI_lo h]
    go_enter Tryz.func94, Tryz.ntmps94
    go_wp2
    go_ret
    exact ⟨rfl, rfl⟩
  · rw [needI_hi h]
    go_enter Tryz.func94, Tryz.ntmps94
    go_wp2
    all_goals
      go_ret
      exact ⟨ret_int (by omega), rfl⟩
def encP (p : Pc) : List Value := [.int .i64 (p.1 : Int), .int .i64 (p.2.1 : Int), .int .i64 (p.2.2 : Int)]
theorem encP_ok : Enc 3 encP := ⟨fun _ => rfl, by intro a u hu; simp [encP] at hu; rcases hu with rfl | rfl | rfl <;> rfl, by decide⟩
theorem pc_one (w : World) (p : Pc) (ty : TypeId) : IsG (w.alloc (.cells #[.int .i64 (p.1 : Int), .int .i64 (p.2.1 : Int), .int .i64 (p.2.2 : Int)] ty)) 3 encP (some ⟨w.heap.size, 0, none⟩) 1 [p] :=
  IsG.one (by simp) (fun j u hu => by
    rw [World.cell?_alloc_at _ _ _ _ rfl]
    match j, hu with
    | 0, hu => simpa [encP] using hu
    | 1, hu => simpa [encP] using hu
    | 2, hu => simpa [encP] using hu
    | j + 3, hu => simp [encP] at hu)
end Go.Proofs.YtiomhdanmcnaeaaGreatDoor
