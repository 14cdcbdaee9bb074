/- The document's cache as it lies in memory, and what its calls give, at this translation. -/
import Derived.Test.YtocnpjmhkgnomaaCo18
namespace Go.Proofs.Ytocnpjmhkgnomaa
open Go.RowKit Go.MapKept Go.Sort

/-- The place of a sector. -/
def findI : List Li → Int → Int
  | [], _ => -1
  | x :: l, k => if x.1 = k then 0 else if findI l k < 0 then -1 else findI l k + 1
theorem findI_ge (l : List Li) (k : Int) : -1 ≤ findI l k := by
  induction l with
  | nil => simp [findI]
  | cons a l ih => unfold findI; split <;> (try split) <;> omega
theorem findI_none {l : List Li} {k : Int} : findI l k < 0 ↔ look l k = none := by
  induction l with
  | nil => simp [findI, look]
  | cons a l ih =>
    unfold findI look
    split
    · simp
    · split
      · rename_i h; simp [ih.1 h]
      · rename_i h
        constructor
        · intro h2; omega
        · intro h2; exact absurd (ih.2 h2) h
theorem findI_some {l : List Li} {k : Int} (h : ¬ findI l k < 0) : ∃ (i : Nat) (v : List UInt8 × Bool), findI l k = (i : Int) ∧ l[i]? = some (k, v) ∧ look l k = some v ∧ ∀ j y, j < i → l[j]? = some y → y.1 ≠ k := by
  induction l with
  | nil => simp [findI] at h
  | cons a l ih =>
    obtain ⟨a1, a2⟩ := a
    by_cases e : a1 = k
    · exact ⟨0, a2, by simp [findI, e], by simp [e], by simp [look, e], fun j y hj => by omega⟩
    · have h2 : ¬ findI l k < 0 := fun h2 => h (by rw [findI, if_neg e, if_pos h2]; omega)
      obtain ⟨i, v, h3, h4, h5, h6⟩ := ih h2
      refine ⟨i + 1, v, by rw [findI, if_neg e, if_neg h2]; omega, by simpa using h4, by rw [look, if_neg e]; exact h5, fun j y hj hy => ?_⟩
      cases j with
      | zero => simp at hy; rw [← hy]; exact e
      | succ j => exact h6 j y (by omega) (by simpa using hy)
theorem set_at {l : List Li} (hr : Rise l) {i : Nat} {k : Int} {v : List UInt8 × Bool} (h : l[i]? = some (k, v)) (x : List UInt8 × Bool) : l.set i (k, x) = setL l (k, x) := by
  induction l generalizing i with
  | nil => simp at h
  | cons a l ih =>
    obtain ⟨h1, h2⟩ := List.pairwise_cons.1 hr
    cases i with
    | zero =>
      simp at h
      subst h
      unfold setL
      rw [if_neg (show ¬ k < k by omega), if_pos rfl]
      rfl
    | succ i =>
      have h3 : l[i]? = some (k, v) := by simpa using h
      have := h1 _ (List.mem_of_getElem? h3)
      have h4 : a.1 < k := this
      unfold setL
      rw [if_pos (show a.1 < (k, x).1 from h4), List.set_cons_succ, ih h2 h3]
/-- Those ahead of a place. -/
theorem split_at {l : List Li} {x : Li} (hl : look l x.1 = none) (j : Nat) (h1 : ∀ i y, i < j → l[i]? = some y → y.1 < x.1) (h2 : ∀ y, l[j]? = some y → ¬ y.1 < x.1) (hj : j ≤ l.length) : l.take j ++ [x] ++ l.drop j = setL l x := by
  induction l generalizing j with
  | nil => simp [setL]
  | cons a l ih =>
    cases j with
    | zero =>
      have := h2 a (by simp)
      rw [look] at hl
      split at hl
      · cases hl
      · rename_i hne
        unfold setL
        rw [if_neg this, if_neg hne]
        simp
    | succ j =>
      have ha := h1 0 a (by omega) (by simp)
      rw [look, if_neg (by omega)] at hl
      unfold setL
      rw [if_pos ha]
      have := ih hl j (fun i y hi hy => h1 (i + 1) y (by omega) (by simpa using hy)) (fun y hy => h2 y (by simpa using hy)) (by simpa using hj)
      rw [← this]
      simp

/-- The document's cache in block b: its lines lie in the slice v. -/
structure Rc (w : World) (b : Nat) (v : Value) (l : List Li) : Prop where
  cell : w.cell? ⟨b, 0, none⟩ = some v
  fz : w.frozen? ⟨b, 0, none⟩ = false
  row : RG w 3 encL v l
  ne : ∀ g, blk v = some g → g ≠ b
theorem Rc.lt {w : World} {b : Nat} {v : Value} {l : List Li} (h : Rc w b v l) : b < w.heap.size := lt_of_cell h.cell
theorem Rc.later {S : Nat → Prop} {w w' : World} {b : Nat} {v : Value} {l : List Li} (h : Rc w b v l) (k : Mod S w w') (hb : ¬ S b) (hm : ∀ g, blk v = some g → ¬ S g) : Rc w' b v l :=
  ⟨(k.cell (p := ⟨b, 0, none⟩) h.lt hb).trans h.cell, (k.frozen (p := ⟨b, 0, none⟩) h.lt hb).trans h.fz, h.row.later k hm, h.ne⟩
theorem Rc.below {w w' : World} {b : Nat} {v : Value} {l : List Li} (h : Rc w b v l) (k : Below w.heap.size w w') : Rc w' b v l := h.later (Mod.of_below (S := fun _ => False) k) id (fun _ _ => id)
/-- How it turns. -/
structure RcTo (w w' : World) (b : Nat) (v v' : Value) : Prop where
  mod : Mod (fun g => g = b ∨ blk v = some g) w w'
  new : ∀ g, blk v' = some g → blk v = some g ∨ w.heap.size ≤ g
theorem RcTo.refl (w : World) (b : Nat) (v : Value) : RcTo w w b v v := ⟨Mod.refl _ _, fun _ e => .inl e⟩
theorem RcTo.ne {w w' : World} {b q : Nat} {v v' : Value} (h : RcTo w w' b v v') (hm : ∀ g, blk v = some g → g ≠ q) (hq : q < w.heap.size) : ∀ g, blk v' = some g → g ≠ q := by
  intro g hg
  rcases h.new g hg with e | e
  · exact hm g e
  · omega
theorem RcTo.ge {w w' : World} {b B : Nat} {v v' : Value} (h : RcTo w w' b v v') (hm : ∀ g, blk v = some g → B ≤ g) (hB : B ≤ w.heap.size) : ∀ g, blk v' = some g → B ≤ g := by
  intro g hg
  rcases h.new g hg with e | e
  · exact hm g e
  · omega
theorem RcTo.trans {w u x : World} {b : Nat} {v v' v'' : Value} (h : RcTo w u b v v') (k : RcTo u x b v' v'') : RcTo w x b v v'' := by
  refine ⟨⟨k.mod.os.trans h.mod.os, k.mod.tape.trans h.mod.tape, k.mod.output.trans h.mod.output, Nat.le_trans h.mod.size k.mod.size, fun i hi hs => ?_⟩, ?_⟩
  · refine (k.mod.block i (Nat.lt_of_lt_of_le hi h.mod.size) ?_).trans (h.mod.block i hi hs)
    rintro (e | e)
    · exact hs (.inl e)
    · rcases h.new i e with e1 | e1
      · exact hs (.inr e1)
      · omega
  · intro g hg
    exact (k.new g hg).elim (h.new g) (fun e => .inr (Nat.le_trans h.mod.size e))
theorem RcTo.step {w u x : World} {b : Nat} {v v' : Value} (h : RcTo w u b v v') (k : Below u.heap.size u x) : RcTo w x b v v' :=
  ⟨h.mod.trans ((Mod.of_below (S := fun _ => False) k).mono fun _ _ h => h.elim), h.new⟩
theorem RcTo.after {w u x : World} {b : Nat} {v v' : Value} (h : Below w.heap.size w u) (k : RcTo u x b v v') : RcTo w x b v v' :=
  ⟨((Mod.of_below (S := fun _ => False) h).mono fun _ _ h => h.elim).trans k.mod, fun g hg => (k.new g hg).imp id (Nat.le_trans h.size)⟩
set_option maxHeartbeats 1000000 in
theorem find_any {w : World} {b : Nat} {v : Value} {l : List Li} (h : Rc w b v l) (k : Int) :
    Calls Try.prog 27 #[.pointer (some ⟨b, 0, none⟩), .int .i64 k] w fun e w' => e = .returned (.int .i64 (findI l k)) ∧ w = w' := by
  have hc := h.cell
  obtain ⟨A, c, rfl⟩ := h.row.shape
  obtain ⟨hi, _, _⟩ := h.row.is encL_ok
  have hsm := hi.small
  have Hi := Lib.hid hi
  clear h hi
  go_enter Try.func27, Try.ntmps27
  go_wp2
  go_loopw [5] (fun i wr => ∃ j : Nat, j ≤ l.length ∧ i = .int .i64 j ∧ wr = w ∧ Hid (findI l k = if findI (l.drop j) k < 0 then -1 else findI (l.drop j) k + j)) (fun i _ => l.length - (intOf i).toNat)
  case atStart => exact ⟨0, Nat.zero_le _, rfl, rfl, Lib.hid (by have := findI_ge l k; rw [List.drop_zero]; split <;> omega)⟩
  case round =>
    obtain ⟨j, hj, rfl, hw, HF⟩ := hrel
    subst hw
    by_cases hlt : j < l.length
    · obtain ⟨g, off, rfl, hgl, hcs⟩ := Hi.out.cells (by omega)
      have hx : l[j]? = some l[j] := List.getElem?_eq_getElem hlt
      have c0 := hcs j _ 0 _ hx rfl
      rw [Nat.add_zero] at c0
      have Hd : Hid (l.drop j = l[j] :: l.drop (j + 1)) := Lib.hid (List.drop_eq_getElem_cons hlt)
      obtain ⟨x, Hx⟩ : ∃ x, Hid (l[j] = x) := ⟨_, Lib.hid rfl⟩
      rw [Hx.out] at c0 Hd
      clear hcs hx
      by_cases e : x.1 = k
      · have HE : Hid (findI l k = (j : Int)) := Lib.hid (by rw [HF.out, Hd.out, findI, if_pos e]; simp)
        rw [e] at c0
        clear e
        go_wp2
        go_ret
        rw [HE.out]
        exact ⟨rfl, rfl⟩
      · have HE : Hid (findI l k = if findI (l.drop (j + 1)) k < 0 then -1 else findI (l.drop (j + 1)) k + ((j + 1 : Nat) : Int)) := Lib.hid (by
          rw [HF.out, Hd.out, findI, if_neg e]
          have := findI_ge (l.drop (j + 1)) k
          split <;> split <;> (try split) <;> omega)
        have he : (x.1 == k) = false := by simpa using e
        clear e
        go_wp2
        go_roundw
        case rel => exact ⟨j + 1, by omega, by go_num, by first | rfl | trivial, HE⟩
        case measure => simp [intOf]; omega
    · obtain rfl : j = l.length := by omega
      have HE : Hid (findI l k = -1) := Lib.hid (by rw [HF.out, List.drop_length]; simp [findI])
      go_wp2
      go_ret
      rw [HE.out]
      exact ⟨rfl, rfl⟩
end Go.Proofs.Ytocnpjmhkgnomaa
