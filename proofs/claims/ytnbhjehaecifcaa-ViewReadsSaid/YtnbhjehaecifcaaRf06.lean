
/- The document's functions over views: Enough, Key, Open, without. -/
import Derived.Test.YtnbhjehaecifcaaOps06
namespace Go.Proofs.Ytnbhjehaecifcaa
open Go.RowKit

/-! ### without, unready -/
def pWo (node inc : Int) (m : Mb) : Bool := m.1 != node || (inc != 0 && m.2.1 != inc)
theorem take_filter {l : List Mb} {p : Mb → Bool} {k : Nat} {m : Mb} (h : l[k]? = some m) : (l.take (k + 1)).filter p = (l.take k).filter p ++ (if p m then [m] else []) := by
  rw [List.take_add_one, h, List.filter_append]
  congr 1
  simp only [Option.toList_some, List.filter_cons, List.filter_nil]
theorem mb1_at (w : World) (m : Mb) : ∀ (j : Nat) (u : Value), (mb1 m)[j]? = some u → (w.alloc (.cells #[.int .i64 m.1, .int .i64 m.2.1, .bool m.2.2] 43)).cell? ((⟨w.heap.size, 0, none⟩ : Addr).add j) = some u := by
  intro j u hj
  match j, hj with
  | 0, hj => simp [mb1] at hj; subst hj; simp [Addr.add, go_sem]
  | 1, hj => simp [mb1] at hj; subst hj; simp [Addr.add, go_sem]
  | 2, hj => simp [mb1] at hj; subst hj; simp [Addr.add, go_sem]
  | j + 3, hj => simp [mb1] at hj
theorem mb1_one (m : Mb) : ∀ u ∈ mb1 m, u.oneCell' = true := by
  intro u hu
  simp only [mb1, List.mem_cons, List.not_mem_nil, or_false] at hu
  rcases hu with rfl | rfl | rfl <;> rfl
/-- A list of a call's own. -/
structure OwnL (w : World) (B : Nat) (A : Option Addr) (n c : Nat) (l : List Mb) : Prop where
  row : RowM w A n c l
  new : ∀ g, blk (.slice A n c) = some g → B ≤ g
theorem OwnL.nil (w : World) (B : Nat) : OwnL w B none 0 0 [] := ⟨row_nil _ _, fun g h => by cases h⟩
theorem OwnL.more {w w2 : World} {B : Nat} {A : Option Addr} {n c : Nat} {l : List Mb} (h : OwnL w B A n c l) (hB : B ≤ w.heap.size) (m : Mb) {x : Addr} {cap : Nat}
    (hr : Row w2 3 (.slice (some x) (n + 1) cap) (n + 1) (mcs l ++ mb1 m)) (hb : blk (.slice (some x) (n + 1) cap) = blk (.slice A n c) ∨ ∃ g, blk (.slice (some x) (n + 1) cap) = some g ∧ w.heap.size ≤ g) : OwnL w2 B (some x) (n + 1) cap (l ++ [m]) := by
  refine ⟨by rw [← mcs_one, ← mcs_append] at hr; exact hr, fun g hg => ?_⟩
  rcases hb with e | ⟨g', e, hg'⟩
  · rw [e] at hg
    exact h.new g hg
  · rw [e] at hg
    obtain rfl := Option.some.inj hg
    omega
end Go.Proofs.Ytnbhjehaecifcaa
