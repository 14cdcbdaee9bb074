/- What a statement keeps beside a cache: of 32 sectors, which are known, and as what. -/
import Derived.Test.YtocnpjmhkgnomaaCo18
namespace Go.Proofs.Ytocnpjmhkgnomaa
open Go.RowKit Go.MapKept Go.Sort

/-- An array in a block of its own. -/
structure Ar (w : World) (b n : Nat) (g : Nat → Value) : Prop where
  cell : ∀ j, j < n → w.cell? ⟨b, j, none⟩ = some (g j)
  fz : ∀ j, j < n → w.frozen? ⟨b, j, none⟩ = false
  pos : 0 < n
theorem Ar.lt {w : World} {b n : Nat} {g : Nat → Value} (h : Ar w b n g) : b < w.heap.size := lt_of_cell (h.cell 0 h.pos)
theorem Ar.later {S : Nat → Prop} {w w' : World} {b n : Nat} {g : Nat → Value} (h : Ar w b n g) (m : Mod S w w') (hs : ¬ S b) : Ar w' b n g :=
  ⟨fun j hj => (m.cell (p := ⟨b, j, none⟩) h.lt hs).trans (h.cell j hj), fun j hj => (m.frozen (p := ⟨b, j, none⟩) h.lt hs).trans (h.fz j hj), h.pos⟩
theorem Ar.below {w w' : World} {b n : Nat} {g : Nat → Value} (h : Ar w b n g) (m : Below w.heap.size w w') : Ar w' b n g := h.later (Mod.of_below (S := fun _ => False) m) id
def upd {α : Type} (f : Nat → α) (k : Nat) (v : α) : Nat → α := fun j => if j = k then v else f j
theorem upd_same {α : Type} (f : Nat → α) (k : Nat) (v : α) : upd f k v k = v := if_pos rfl
theorem upd_other {α : Type} (f : Nat → α) {k j : Nat} (v : α) (h : j ≠ k) : upd f k v j = f j := if_neg h
theorem Ar.set {w : World} {b n : Nat} {g g' : Nat → Value} (h : Ar w b n g) {k : Nat} (hk : k < n) (v : Value) (e : ∀ j, g' j = if j = k then v else g j) : Ar (w.setCell ⟨b, k, none⟩ v) b n g' := by
  refine ⟨fun j hj => ?_, fun j hj => set_frozen (h.fz j hj), h.pos⟩
  rw [e]
  by_cases hjk : j = k
  · subst hjk
    rw [if_pos rfl]
    exact set_same (h.cell j hj)
  · rw [if_neg hjk]
    exact set_other (by simp; try omega) (h.cell j hj)
theorem Ar.apart {w : World} {b n q o : Nat} {g : Nat → Value} (h : Ar w b n g) (hq : q ≠ b) (v : Value) : Ar (w.setCell ⟨q, o, none⟩ v) b n g := h.later ((Mod.refl (· = q) w).set1 v) (fun e => hq e.symm)
def gB (f : Nat → Bool) : Nat → Value := fun j => .bool (f j)
def gS (s : Nat → List UInt8) : Nat → Value := fun j => .string (str (s j))
theorem gB_upd (f : Nat → Bool) (k : Nat) (v : Bool) : ∀ j, gB (upd f k v) j = if j = k then .bool v else gB f j := by
  intro j; unfold gB upd; split <;> rfl
theorem gS_upd (s : Nat → List UInt8) (k : Nat) (v : List UInt8) : ∀ j, gS (upd s k v) j = if j = k then .string (str v) else gS s j := by
  intro j; unfold gS upd; split <;> rfl

/-- All lines are of sectors from 0 to 31. -/
def In32 (L : List Li) : Prop := ∀ x ∈ L, 0 ≤ x.1 ∧ x.1 < 32
theorem in32_nil : In32 [] := by simp [In32]
theorem In32.set {L : List Li} (h : In32 L) {k : Nat} (hk : k < 32) (v : List UInt8 × Bool) : In32 (setL L ((k : Int), v)) := by
  intro x hx
  rcases mem_setL hx with rfl | hx
  · exact ⟨by show (0 : Int) ≤ k; omega, by show (k : Int) < 32; omega⟩
  · exact h x hx
/-- Which are known, and as what. -/
structure Tie (L : List Li) (f : Nat → Bool) (s : Nat → List UInt8) : Prop where
  is : ∀ k, k < 32 → f k = (look L k).isSome
  want : ∀ k, k < 32 → f k = true → s k = (kvOf L k).1
theorem tie_nil : Tie [] (fun _ => false) (fun _ => []) := ⟨fun _ _ => rfl, fun _ _ h => by cases h⟩
theorem kvOf_set {L : List Li} (hr : Rise L) (x : Li) (k : Int) : kvOf (setL L x) k = if k = x.1 then x.2 else kvOf L k := by
  unfold kvOf
  rw [look_set hr]
  split <;> rfl
theorem Tie.set {L : List Li} {f : Nat → Bool} {s : Nat → List UInt8} (h : Tie L f s) (hr : Rise L) (k : Nat) (v : List UInt8) (d : Bool) : Tie (setL L ((k : Int), v, d)) (upd f k true) (upd s k v) := by
  refine ⟨fun j hj => ?_, fun j hj hf => ?_⟩
  · rw [look_set hr]
    by_cases e : j = k
    · subst e; simp [upd]
    · rw [upd_other _ _ e, if_neg (by show (j : Int) ≠ k; omega)]; exact h.is j hj
  · rw [kvOf_set hr]
    by_cases e : j = k
    · subst e; simp [upd]
    · rw [upd_other _ _ e] at hf ⊢
      rw [if_neg (by show (j : Int) ≠ k; omega)]; exact h.want j hj hf
theorem filter_set {L : List Li} {x : Li} {p : Li → Bool} (hl : look L x.1 = none) (hp : p x = false) : (setL L x).filter p = L.filter p := by
  induction L with
  | nil => simp [setL, hp]
  | cons a L ih =>
    rw [look] at hl
    split at hl
    · cases hl
    · rename_i hne
      unfold setL
      split
      · rw [List.filter_cons, List.filter_cons, ih hl]
      · first | rw [List.filter_cons, hp] | rw [if_neg hne, List.filter_cons, hp]
        simp
theorem dirty_load {L : List Li} (k : Int) (s : List UInt8) (a b : Int) : dirtyL (loadL L k s) a b = dirtyL L a b := by
  unfold loadL
  split
  · rename_i h
    unfold dirtyL
    rw [filter_set h (by simp)]
  · rfl
/-- A cache of the call's own beside two arrays of 32. -/
structure Lw (w u : World) (b p q : Nat) (m : Option Nat) (L : List Li) (f : Nat → Bool) (s : Nat → List UInt8) : Prop where
  kc : KC w u b m L
  rng : In32 L
  tie : Tie L f s
  ab : Ar u p 32 (gB f)
  sb : Ar u q 32 (gS s)
  pb : p ≠ b
  qb : q ≠ b
  pq : p ≠ q
  pm : ∀ g, m = some g → g ≠ p
  qm : ∀ g, m = some g → g ≠ q
  lp : w.heap.size ≤ p
  lq : w.heap.size ≤ q
theorem Lw.later {w u v : World} {b p q : Nat} {m : Option Nat} {L : List Li} {f : Nat → Bool} {s : Nat → List UInt8} (h : Lw w u b p q m L f s) (k : Below u.heap.size u v) : Lw w v b p q m L f s :=
  ⟨h.kc.later k, h.rng, h.tie, h.ab.below k, h.sb.below k, h.pb, h.qb, h.pq, h.pm, h.qm, h.lp, h.lq⟩
/-- A line that was set, and both arrays' cells. -/
theorem Lw.set {w u v : World} {b p q : Nat} {m m' : Option Nat} {L : List Li} {f : Nat → Bool} {s : Nat → List UInt8} (h : Lw w u b p q m L f s) {k : Nat} (hk : k < 32) {x : List UInt8} {d : Bool} (c : Ca v b m' (setL L ((k : Int), x, d))) (t : CaTo u v b m m') :
    Ar v p 32 (gB f) ∧ Ar v q 32 (gS s) ∧ Lw w ((v.setCell ⟨p, k, none⟩ (.bool true)).setCell ⟨q, k, none⟩ (.string (str x))) b p q m' (setL L ((k : Int), x, d)) (upd f k true) (upd s k x) ∧ Lw w ((v.setCell ⟨q, k, none⟩ (.string (str x))).setCell ⟨p, k, none⟩ (.bool true)) b p q m' (setL L ((k : Int), x, d)) (upd f k true) (upd s k x) := by
  have hp1 : ¬ (p = b ∨ m = some p) := fun e => e.elim h.pb fun e => h.pm p e rfl
  have hq1 : ¬ (q = b ∨ m = some q) := fun e => e.elim h.qb fun e => h.qm q e rfl
  have a1 := h.ab.later t.mod hp1
  have a2 := h.sb.later t.mod hq1
  have pm' := t.ne h.pm h.ab.lt
  have qm' := t.ne h.qm h.sb.lt
  have K := h.kc.to c t
  have M : ∀ (g g2 o o2 : Nat) (v1 v2 : Value), (g = p ∨ g = q) → (g2 = p ∨ g2 = q) → KC w ((v.setCell ⟨g, o, none⟩ v1).setCell ⟨g2, o2, none⟩ v2) b m' (setL L ((k : Int), x, d)) := by
    intro g g2 o o2 v1 v2 hg hg2
    have m1 : Mod (fun y => y = p ∨ y = q) v ((v.setCell ⟨g, o, none⟩ v1).setCell ⟨g2, o2, none⟩ v2) := ((Mod.refl _ v).setCell (p := ⟨g, o, none⟩) (.inl hg) _).setCell (p := ⟨g2, o2, none⟩) (.inl hg2) _
    refine ⟨K.ca.later m1 (fun e => e.elim (fun e => h.pb e.symm) (fun e => h.qb e.symm)) (fun y hy e => e.elim (pm' y hy) (qm' y hy)), m1.below K.below K.below.size (fun i hi => hi.elim (fun e => e ▸ h.lp) (fun e => e ▸ h.lq)), K.low, K.new⟩
  refine ⟨a1, a2, ⟨M _ _ _ _ _ _ (.inl rfl) (.inr rfl), h.rng.set hk _, h.tie.set h.kc.ca.rise k x d, ?_, ?_, h.pb, h.qb, h.pq, pm', qm', h.lp, h.lq⟩, ⟨M _ _ _ _ _ _ (.inr rfl) (.inl rfl), h.rng.set hk _, h.tie.set h.kc.ca.rise k x d, ?_, ?_, h.pb, h.qb, h.pq, pm', qm', h.lp, h.lq⟩⟩
  · exact (a1.set hk _ (gB_upd f k true)).apart (fun e => h.pq e.symm) _
  · exact (a2.apart h.pq _).set hk _ (gS_upd s k x)
  · exact (a1.apart (fun e => h.pq e.symm) _).set hk _ (gB_upd f k true)
  · exact (a2.set hk _ (gS_upd s k x)).apart h.pq _
theorem ar_new (w : World) (n : Nat) (hn : 0 < n) (v : Value) (t : TypeId) (cs : Array Value) (h : cs = Array.replicate n v) : Ar (w.alloc (.cells cs t)) w.heap.size n (fun _ => v) := by
  subst h
  refine ⟨fun j hj => ?_, fun j _ => ?_, hn⟩
  · rw [World.cell?_alloc_mark]
    simp [hj]
  · rw [World.frozen?_alloc_mark]
    simp
/-- A row of changes lies apart from all of these. -/
structure Apart (A : Option Addr) (n b p q : Nat) (m : Option Nat) : Prop where
  aside : Aside A n b m
  two : ∀ g off, A = some ⟨g, off, none⟩ → 0 < n → g ≠ p ∧ g ≠ q
theorem Lw.touch {w u : World} {b p q : Nat} {m : Option Nat} {L : List Li} {f : Nat → Bool} {s : Nat → List UInt8} (h : Lw w u b p q m L f s) {k : Nat} (hk : k < 32) (hf : f k = true) : Lw w (u.setCell ⟨p, k, none⟩ (.bool true)) b p q m L f s := by
  have m1 : Mod (· = p) u (u.setCell ⟨p, k, none⟩ (.bool true)) := (Mod.refl (· = p) u).set1 _
  refine ⟨⟨h.kc.ca.later m1 (fun e => h.pb e.symm) (fun y hy => h.pm y hy), m1.below h.kc.below h.kc.below.size (fun i hi => hi ▸ h.lp), h.kc.low, h.kc.new⟩, h.rng, h.tie, h.ab.set hk _ (fun j => ?_), h.sb.apart h.pq _, h.pb, h.qb, h.pq, h.pm, h.qm, h.lp, h.lq⟩
  unfold gB
  split
  · rename_i e; rw [e, hf]
  · rfl
theorem Lw.to {w u v : World} {b p q : Nat} {m m' : Option Nat} {L : List Li} {f : Nat → Bool} {s : Nat → List UInt8} (h : Lw w u b p q m L f s) (c : Ca v b m' L) (t : CaTo u v b m m') : Lw w v b p q m' L f s :=
  ⟨h.kc.to c t, h.rng, h.tie, h.ab.later t.mod (fun e => e.elim h.pb fun e => h.pm p e rfl), h.sb.later t.mod (fun e => e.elim h.qb fun e => h.qm q e rfl), h.pb, h.qb, h.pq, t.ne h.pm h.ab.lt, t.ne h.qm h.sb.lt, h.lp, h.lq⟩
def Two (p k g o : Nat) (x : Bool) (s : List UInt8) (u : World) : Prop := u.cell? ⟨p, k, none⟩ = some (.bool x) ∧ u.cell? ⟨g, o, none⟩ = some (.string (str s))
theorem two_in {p k g o : Nat} {x : Bool} {s : List UInt8} {u : World} (h : Two p k g o x s u) : Nonempty (In (Two p k g o x s)) := ⟨⟨u, h⟩⟩
end Go.Proofs.Ytocnpjmhkgnomaa
