/- Rows of parcels of a call's own. -/
import Derived.Test.YtakhhpakajafkaaOver
namespace Go.Proofs.Ytakhhpakajafkaa
open Go.RowKit Go.Shelf

abbrev Pcl := Int × Int × List UInt8
def pc1 (p : Pcl) : List Value := [.int .i64 p.1, .int .i64 p.2.1, .string (str p.2.2)]
def pc : List Pcl → List Value
  | [] => []
  | p :: l => pc1 p ++ pc l
theorem pc_length : ∀ l, (pc l).length = l.length * 3
  | [] => rfl
  | p :: l => by simp [pc, pc1, pc_length l]; omega
theorem pc_append : ∀ l m, pc (l ++ m) = pc l ++ pc m
  | [], _ => rfl
  | p :: l, m => by simp [pc, pc_append l m]
theorem pc_one (p : Pcl) : pc [p] = pc1 p := by simp [pc]
theorem pc_get : ∀ (l : List Pcl) (i : Nat) (p : Pcl), l[i]? = some p → (pc l)[i * 3]? = some (.int .i64 p.1) ∧ (pc l)[i * 3 + 1]? = some (.int .i64 p.2.1) ∧ (pc l)[i * 3 + 2]? = some (.string (str p.2.2))
  | [], _, _, h => by simp at h
  | q :: l, 0, p, h => by
    simp at h
    subst h
    exact ⟨rfl, rfl, rfl⟩
  | q :: l, i + 1, p, h => by
    have := pc_get l i p (by simpa using h)
    rw [show (i + 1) * 3 = i * 3 + 1 + 1 + 1 by omega]
    exact this
theorem infoP : (Try.prog.info? 35).map (fun i => (i.zero, i.size, i.bytes)) = some (some (.agg #[.int .i64 0, .int .i64 0, .string ByteArray.empty]), 3, 32) := by kernel_rfl
/-- A slice of parcels of a call's own. -/
def Ps (base : Nat) (w : World) (v : Value) (l : List Pcl) : Prop := w.ownsRow base 35 3 v l.length (pc l)
theorem Ps.nil (base : Nat) (w : World) : Ps base w (.slice none 0 0) [] := World.ownsRow_nil _ _ _ _
theorem Ps.slice {base : Nat} {w : World} {v : Value} {l : List Pcl} (h : Ps base w v l) : ∃ a cap, v = .slice a l.length cap := by
  rcases h.2 with ⟨rfl, h0⟩ | ⟨g, cap, cur, rfl, _⟩
  · exact ⟨none, 0, by rw [h0]⟩
  · exact ⟨_, _, rfl⟩
theorem Ps.cells {base : Nat} {w : World} {v : Value} {l : List Pcl} (h : Ps base w v l) {i : Nat} (hi : i < l.length) : ∃ g cap, v = .slice (some ⟨g, 0, none⟩) l.length cap ∧ base ≤ g ∧
    w.cell? ⟨g, i * 3, none⟩ = some (.int .i64 l[i].1) ∧ w.cell? ⟨g, i * 3 + 1, none⟩ = some (.int .i64 l[i].2.1) ∧ w.cell? ⟨g, i * 3 + 2, none⟩ = some (.string (str l[i].2.2)) := by
  have hh := h.2
  rcases hh with ⟨rfl, h0⟩ | ⟨g, cap, cur, rfl, hb, _⟩
  · omega
  · obtain ⟨p0, p1, p2⟩ := pc_get l i l[i] (List.getElem?_eq_getElem hi)
    have c0 := World.ownsRow.cells h (g := g) rfl _ _ p0
    have c1 := World.ownsRow.cells h (g := g) rfl _ _ p1
    have c2 := World.ownsRow.cells h (g := g) rfl _ _ p2
    rw [Go.WideShapes.add_plain, Nat.zero_add] at c0 c1 c2
    exact ⟨g, cap, rfl, hb, c0, c1, c2⟩
/-- What owns nothing below base stays where only what lies below base turns, and new blocks come. -/
theorem Ps.later {base : Nat} {w w' : World} {v : Value} {l : List Pcl} (h : Ps base w v l) {S : Nat → Prop} (m : Mod S w w') (hs : ∀ g, v.ownBlock = some g → ¬ S g) : Ps base w' v l := by
  refine ⟨h.1, ?_⟩
  rcases h.2 with h0 | ⟨g, cap, cur, rfl, hb, hg, rest⟩
  · exact .inl h0
  · exact .inr ⟨g, cap, cur, rfl, hb, (m.block g (Array.getElem?_eq_some_iff.1 hg).1 (hs g rfl)).trans hg, rest⟩
theorem Ps.aside {base B : Nat} {w w' : World} {v : Value} {l : List Pcl} (h : Ps base w v l) (m : Aside B w w') : Ps base w' v l := by
  refine ⟨h.1, ?_⟩
  rcases h.2 with h0 | ⟨g, cap, cur, rfl, hb, hg, rest⟩
  · exact .inl h0
  · exact .inr ⟨g, cap, cur, rfl, hb, (m.block g (Array.getElem?_eq_some_iff.1 hg).1 (fun ⟨_, o, ho, hc⟩ => by rw [hg] at ho; cases ho; cases hc)).trans hg, rest⟩
/-- A block of two cells. -/
def Boxed2 (W : World) (B : Nat) (t : TypeId) (u v : Value) : Prop := W.heap[B]? = some (.cells #[u, v] t (0, 0))
theorem Boxed2.new (W : World) (t : TypeId) (u v : Value) : Boxed2 (W.alloc (.cells #[u, v] t)) W.heap.size t u v := World.alloc_heap_new W _
theorem Boxed2.lt {W : World} {B : Nat} {t : TypeId} {u v : Value} (h : Boxed2 W B t u v) : B < W.heap.size := (Array.getElem?_eq_some_iff.1 h).1
theorem Boxed2.cell0 {W : World} {B : Nat} {t : TypeId} {u v : Value} (h : Boxed2 W B t u v) : W.cell? ⟨B, 0, none⟩ = some u := by simp [World.cell?, show W.heap[B]? = _ from h]
theorem Boxed2.cell1 {W : World} {B : Nat} {t : TypeId} {u v : Value} (h : Boxed2 W B t u v) : W.cell? ⟨B, 1, none⟩ = some v := by simp [World.cell?, show W.heap[B]? = _ from h]
theorem Boxed2.frozen {W : World} {B : Nat} {t : TypeId} {u v : Value} (h : Boxed2 W B t u v) (o : Nat) : W.frozen? ⟨B, o, none⟩ = false := by simp [World.frozen?, show W.heap[B]? = _ from h]
theorem Boxed2.aside {B : Nat} {W W' : World} (m : Aside B W W') {g : Nat} {t : TypeId} {u v : Value} (h : Boxed2 W g t u v) : Boxed2 W' g t u v :=
  (m.block g h.lt (fun ⟨_, o, ho, hc⟩ => by rw [show W.heap[g]? = _ from h] at ho; cases ho; cases hc)).trans h
theorem Boxed2.alloc {W : World} {g : Nat} {t : TypeId} {u v : Value} (h : Boxed2 W g t u v) (o : Obj) : Boxed2 (W.alloc o) g t u v := h.aside (aside_alloc 0 W o)
theorem Boxed2.kept {W W' : World} {g : Nat} {t : TypeId} {u v : Value} (h : Boxed2 W g t u v) {S : Nat → Prop} (m : Mod S W W') (hs : ¬ S g) : Boxed2 W' g t u v := (m.block g h.lt hs).trans h
theorem Boxed2.not_row {W : World} {B : Nat} {t e : TypeId} {u u' : Value} (h : Boxed2 W B t u u') (hte : t ≠ e) {base size k : Nat} {v : Value} {xs : List Value} (hr : W.ownsRow base e size v k xs) : some B ≠ v.ownBlock := by
  rcases hr.2 with ⟨rfl, _⟩ | ⟨g, cap, cur, rfl, _, hgb, _⟩
  · simp [Value.ownBlock]
  · intro e'
    obtain rfl : B = g := by simpa [Value.ownBlock] using e'
    have := (show W.heap[B]? = _ from h).symm.trans hgb
    simp at this
    exact hte this.2
/-- What growing one row leaves: all else. -/
theorem mod_grown {w w' : World} {r : Option Nat} (h : w.grownBy w' r) : Mod (fun g => r = some g) w w' := ⟨h.os, h.tape, h.output, h.size, fun k hk hn => h.block k hk (fun e => hn e.symm)⟩
theorem Ps.grown {base : Nat} {w' : World} {v : Value} {l : List Pcl} {p : List Pcl} (hr : w'.ownsRow base 35 3 v (l.length + p.length) (pc l ++ pc p)) : Ps base w' v (l ++ p) := by
  unfold Ps
  rw [List.length_append, pc_append]
  exact hr
/-! ### what waits on all links -/
def onK (s : NS) (k : Nat) : List Pcl := (s k).map fun t => (((k / 8 : Nat) : Int), ((k % 8 : Nat) : Int), t)
/-- What waits on the first k links. -/
def allN (s : NS) : Nat → List Pcl
  | 0 => []
  | k + 1 => allN s k ++ onK s k
theorem onK_length (s : NS) (k : Nat) : (onK s k).length = (s k).length := by simp [onK]
theorem allN_le {s : NS} (h : ∀ k, (s k).length ≤ 200) : ∀ k, (allN s k).length ≤ 200 * k
  | 0 => Nat.le_refl _
  | k + 1 => by have := allN_le h k; have := h k; simp only [allN, List.length_append, onK_length]; omega
end Go.Proofs.Ytakhhpakajafkaa
