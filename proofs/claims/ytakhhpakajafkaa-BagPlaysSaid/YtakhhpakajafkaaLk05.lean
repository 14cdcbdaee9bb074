/- A network of which one link has messages; a statement's own row of texts beside it. -/
import Derived.Test.YtakhhpakajafkaaAwake05
import Derived.Test.YtakhhpakajafkaaOps05
namespace Go.Proofs.Ytakhhpakajafkaa
open Go.RowKit

/-- A network with these on the k-th link. -/
def lk (k : Nat) (l : List (List UInt8)) : NS := fun i => if i = k then l else []
theorem lk_nil (k : Nat) : lk k [] = NS.none := by funext i; simp [lk, NS.none]
theorem lk_put (k : Nat) (l m : List (List UInt8)) : (lk k l).put k m = lk k m := by
  funext i
  by_cases h : i = k
  · subst h; rw [NS.put_same]; simp [lk]
  · rw [NS.put_other _ _ h]; simp [lk, h]
section
variable {i j : Nat} (hi : i < 8) (hj : j < 8) (hne : i ≠ j)
include hi hj hne
theorem link_true : linkB i j = true := by simp [linkB, nodeB]; omega
theorem lk_on (l : List (List UInt8)) : onL (lk (8 * i + j) l) i j = l := by rw [onL_nat _ hi hj hne]; simp [lk]
theorem lk_sendB (l : List (List UInt8)) (x : List UInt8) (hx : x.length ≤ 2000) (hl : l.length < 200) : sendB (lk (8 * i + j) l) i j x = true := by
  simp [sendB, lk_on hi hj hne, link_true hi hj hne, hx, hl]
theorem lk_sendS (l : List (List UInt8)) (x : List UInt8) (hx : x.length ≤ 2000) (hl : l.length < 200) : sendS (lk (8 * i + j) l) i j x = lk (8 * i + j) (l ++ [x]) := by
  rw [sendS, if_pos (lk_sendB hi hj hne l x hx hl), lk_on hi hj hne, toL_nat _ hi hj hne, lk_put]
theorem lk_tkB (l : List (List UInt8)) : tkB (lk (8 * i + j) l) i j = decide (0 < l.length) := by rw [tkB, lk_on hi hj hne]
theorem lk_tkT (l : List (List UInt8)) (x : Int) : tkT (lk (8 * i + j) l) i j x = nth l (wh x l.length) := by rw [tkT, lk_on hi hj hne]
theorem lk_tkS (l : List (List UInt8)) (x : Int) : tkS (lk (8 * i + j) l) i j x = lk (8 * i + j) (l.eraseIdx (wh x l.length)) := by rw [tkS, lk_on hi hj hne, toL_nat _ hi hj hne, lk_put]
theorem lk_dbB (l : List (List UInt8)) : dbB (lk (8 * i + j) l) i j = (decide (0 < l.length) && decide (l.length < 200)) := by rw [dbB, lk_on hi hj hne]
theorem lk_dbS (l : List (List UInt8)) (x : Int) (h0 : 0 < l.length) (hl : l.length < 200) : dbS (lk (8 * i + j) l) i j x = lk (8 * i + j) (l ++ [nth l (wh x l.length)]) := by
  rw [dbS, if_pos (by rw [lk_dbB hi hj hne, decide_eq_true h0, decide_eq_true hl]; rfl), lk_on hi hj hne, toL_nat _ hi hj hne, lk_put]
theorem lk_take0 (l : List (List UInt8)) (n : Nat) (hn : n < l.length) : tkT (lk (8 * i + j) (l.drop n)) i j 0 = nth l n ∧ tkS (lk (8 * i + j) (l.drop n)) i j 0 = lk (8 * i + j) (l.drop (n + 1)) ∧ tkB (lk (8 * i + j) (l.drop n)) i j = true := by
  have e : wh 0 (l.drop n).length = 0 := by
    have : wh ((0 : Nat) : Int) (l.drop n).length = 0 := by rw [wh_nat]; exact Nat.zero_mod _
    exact this
  refine ⟨?_, ?_, ?_⟩
  · rw [lk_tkT hi hj hne, e]
    simp [nth]
  · rw [lk_tkS hi hj hne, e, List.eraseIdx_zero, List.tail_drop]
  · rw [lk_tkB hi hj hne]
    simp; omega
end
/-- A row of texts of the statement's own, beside a network. -/
structure Beside (W w : World) (b : Nat) (s : NS) (v : Value) (l : List (List UInt8)) : Prop where
  own : Own W w b s (fun g => blk v = some g)
  row : Rw w v l
  new : ∀ g, blk v = some g → W.heap.size ≤ g
section
variable {W w w' : World} {b : Nat} {s s' : NS} {v : Value} {l : List (List UInt8)}
theorem Beside.start (h : Own W w b s (fun _ => False)) : Beside W w b s (.slice none 0 0) [] := ⟨h.weak (fun g hg => by cases hg), row_nil _ _, fun g hg => by cases hg⟩
theorem Beside.left (h : Beside W w b s v l) (ho : Own W w' b s' (fun g => blk v = some g)) (m : Left W (fun g => blk v = some g) w w') : Beside W w' b s' v l := ⟨ho, m.row h.row (fun _ h => h), h.new⟩
theorem Beside.later (h : Beside W w b s v l) (m : Below w.heap.size w w') : Beside W w' b s v l := ⟨h.own.later m, h.row.later (Mod.of_below (S := fun _ => False) m) (fun _ _ => id), h.new⟩
/-- One text more. -/
theorem Beside.more (h : Beside W w b s v l) {o : Obj} {v' : Value} {x : List UInt8} {w2 : World} (hr : Row w2 1 v' (l.length + 1) (sv l ++ [.string (str x)])) (hm : Mod (fun g => blk v = some g) (w.alloc o) w2)
    (hb : blk v' = blk v ∨ ∃ g, blk v' = some g ∧ (w.alloc o).heap.size ≤ g) : Beside W w2 b s v' (l ++ [x]) := by
  have hA : Below w.heap.size w (w.alloc o) := (Below.refl _ _).alloc (Nat.le_refl _) _
  have hW : W.heap.size ≤ w.heap.size := h.own.below.size
  have hb' : ∀ g, blk v' = some g → blk v = some g ∨ w.heap.size ≤ g := fun g hg => by
    rcases hb with h1 | ⟨g', h1, h2⟩
    · rw [h1] at hg; exact .inl hg
    · rw [hg] at h1; injection h1 with h1; subst h1; exact .inr (Nat.le_trans hA.size h2)
  have hrw : Rw w2 v' (l ++ [x]) := by
    unfold Rw
    rw [sv_append, List.length_append, List.length_singleton]
    exact hr
  refine ⟨(h.own.later hA).turn hm h.new (fun g hg => ?_) (fun g hg => hrw.blk_lt hg), hrw, fun g hg => ?_⟩
  · rcases hb with h1 | ⟨g', h1, h2⟩
    · rw [h1] at hg; exact .inl hg
    · rw [hg] at h1; injection h1 with h1; subst h1; exact .inr h2
  · rcases hb' g hg with h1 | h1
    · exact h.new g h1
    · omega
end
theorem txt1 (w : World) (x : List UInt8) : ∀ j u, [Value.string (str x)][j]? = some u → (w.alloc (.cells #[.string (str x)] 9)).cell? ((⟨w.heap.size, 0, none⟩ : Addr).add j) = some u := fun j u hj => by
  match j, hj with
  | 0, hj => simp at hj; subst hj; simp [Addr.add, go_sem]
theorem one1 (x : List UInt8) : ∀ u ∈ [Value.string (str x)], u.oneCell' = true := fun u hu => by
  simp at hu
  subst hu; rfl
/-- The first so many bodies, cut short. -/
def bodies (vs : Nat → OpV) (n : Nat) : List (List UInt8) := (List.range n).map fun i => (vs i).body.take 60
theorem bodies_length (vs : Nat → OpV) (n : Nat) : (bodies vs n).length = n := by simp [bodies]
theorem bodies_succ (vs : Nat → OpV) (n : Nat) : bodies vs (n + 1) = bodies vs n ++ [(vs n).body.take 60] := by simp [bodies, List.range_succ]
end Go.Proofs.Ytakhhpakajafkaa
