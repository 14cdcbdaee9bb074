/- PLAIN: what was put is dirty as it was put last; what stays so. -/
import Derived.Test.YtocnpjmhkgnomaaCd18
namespace Go.Proofs.Ytocnpjmhkgnomaa
open Go.RowKit

def KTie (L : List Li) (f : Nat → Bool) (s : Nat → List UInt8) : Prop := ∀ k, k < 32 → (f k = true → look L (k : Int) = some (s k, true)) ∧ (f k = false → ∀ v, look L (k : Int) = some v → v.2 = false)
theorem ktie_nil : KTie [] (fun _ => false) (fun _ => []) := fun _ _ => ⟨(fun h => by cases h), fun _ v h => by cases h⟩
theorem KTie.set {L : List Li} {f : Nat → Bool} {s : Nat → List UInt8} (h : KTie L f s) (hr : Rise L) (k : Nat) (v : List UInt8) : KTie (setL L ((k : Int), v, true)) (upd f k true) (upd s k v) := by
  intro j hj
  rw [look_set hr]
  by_cases e : j = k
  · subst e; simp [upd]
  · rw [upd_other _ _ e, upd_other _ _ e, if_neg (by show ¬ (j : Int) = k; omega)]; exact h j hj
theorem KTie.load {L : List Li} {f : Nat → Bool} {s : Nat → List UInt8} (h : KTie L f s) (hr : Rise L) (k : Nat) (v : List UInt8) : KTie (loadL L (k : Int) v) f s := by
  intro j hj
  unfold loadL
  split
  · rename_i hn
    rw [look_set hr]
    by_cases e : j = k
    · subst e
      rw [if_pos rfl]
      refine ⟨fun hf => ?_, fun _ v hv => ?_⟩
      · have := (h j hj).1 hf
        rw [hn] at this
        cases this
      · injection hv with hv
        rw [← hv]
    · rw [if_neg (by show ¬ (j : Int) = k; omega)]; exact h j hj
  · exact h j hj
theorem In32.load {L : List Li} (h : In32 L) {k : Nat} (hk : k < 32) (v : List UInt8) : In32 (loadL L (k : Int) v) := by
  unfold loadL
  split
  · exact h.set hk _
  · exact h
theorem KTie.none {L : List Li} {f : Nat → Bool} {s : Nat → List UInt8} (h : KTie L f s) {k : Nat} (hk : k < 32) (x : List UInt8) (hx : ¬ (f k = true ∧ x = s k)) : cleanN L [((k : Int), x)] = 0 ∧ cleanL L [((k : Int), x)] = L := by
  have hi : isIt L ((k : Int), x) = false := by
    unfold isIt
    rw [decide_eq_false_iff_not]
    intro e
    have e1 : look L (k : Int) = some (x, true) := e
    cases hf : f k with
    | true =>
      have := (h k hk).1 hf
      rw [e1] at this
      injection this with this
      exact hx ⟨hf, congrArg Prod.fst this⟩
    | false =>
      have := (h k hk).2 hf _ e1
      cases this
  constructor
  · simp [cleanN, hi]
  · simp [cleanL, clean1, hi]
/-- All that is dirty told clean. -/
theorem clean_all {L : List Li} (hr : Rise L) : ∀ (cs : List Ch), cs.Pairwise (fun a b => a.1 ≠ b.1) → (∀ c ∈ cs, look L c.1 = some (c.2, true)) → cleanN L cs = cs.length ∧ ∀ k, look (cleanL L cs) k = if k ∈ cs.map (·.1) then (look L k).map fun v => (v.1, false) else look L k := by
  intro cs
  induction cs generalizing L with
  | nil => intro _ _; exact ⟨rfl, fun k => by simp [cleanL]⟩
  | cons c cs ih =>
    intro hp hc
    obtain ⟨h1, h2⟩ := List.pairwise_cons.1 hp
    have hi : isIt L c = true := by simp [isIt, hc c (by simp)]
    have e1 : clean1 L c = setL L (c.1, c.2, false) := by rw [clean1, if_pos hi]
    have hr1 : Rise (clean1 L c) := hr.clean1 c
    have hc1 : ∀ d ∈ cs, look (clean1 L c) d.1 = some (d.2, true) := fun d hd => by
      rw [e1, look_set hr, if_neg (fun e => h1 d hd e.symm)]
      exact hc d (by simp [hd])
    obtain ⟨i1, i2⟩ := ih hr1 h2 hc1
    refine ⟨by rw [cleanN, if_pos hi, i1, List.length_cons]; omega, fun k => ?_⟩
    show look (cleanL (clean1 L c) cs) k = _
    rw [i2 k, e1, look_set hr]
    by_cases e : k = c.1
    · subst e
      rw [hc c (by simp)]
      by_cases e2 : c.1 ∈ cs.map (·.1) <;> simp [e2]
    · rw [if_neg (show ¬ k = (c.1, c.2, false).1 from e)]
      by_cases e2 : k ∈ cs.map (·.1)
      · rw [if_pos e2, if_pos (by simp only [List.map_cons, List.mem_cons]; exact .inr e2)]
      · rw [if_neg e2, if_neg (by simp only [List.map_cons, List.mem_cons]; rintro (h | h); exact e h; exact e2 h)]
theorem dirty_apart {L : List Li} (hr : Rise L) (a b : Int) : (dirtyL L a b).Pairwise (fun x y => x.1 ≠ y.1) := List.pairwise_map.2 ((hr.filter _).imp fun h => by show ¬ _ = _; omega)
theorem dirty_look {L : List Li} (hr : Rise L) (a b : Int) : ∀ c ∈ dirtyL L a b, look L c.1 = some (c.2, true) := by
  intro c hc
  obtain ⟨x, hx, rfl⟩ := List.mem_map.1 hc
  obtain ⟨h1, h2⟩ := List.mem_filter.1 hx
  rw [look_mem hr h1]
  simp only [Bool.and_eq_true] at h2
  rw [← h2.2]
theorem dirty_none {L : List Li} (hr : Rise L) {a b : Int} (h : ∀ k v, look L k = some v → v.2 = false) : dirtyL L a b = [] := by
  unfold dirtyL
  rw [List.filter_eq_nil_iff.2]
  · rfl
  · intro x hx
    have := h x.1 x.2 (look_mem hr hx)
    simp [this]
theorem In32.of_look {L : List Li} (hr : Rise L) (h : ∀ k v, look L k = some v → 0 ≤ k ∧ k < 32) : In32 L := fun x hx => h x.1 x.2 (look_mem hr hx)
theorem in_look {L : List Li} (h : In32 L) {k : Int} {v : List UInt8 × Bool} (e : look L k = some v) : 0 ≤ k ∧ k < 32 := h (k, v) (look_some e)
/-- What is left once all that was dirty was told clean. -/
theorem keeps_clean {L : List Li} (hr : Rise L) (hi : In32 L) {f : Nat → Bool} {s : Nat → List UInt8} (h : KTie L f s) :
    cleanN L (dirtyL L 0 32) = (dirtyL L 0 32).length ∧ dirtyL (cleanL L (dirtyL L 0 32)) 0 32 = [] ∧ In32 (cleanL L (dirtyL L 0 32)) ∧ ∀ k, k < 32 → f k = true → look (cleanL L (dirtyL L 0 32)) (k : Int) = some (s k, false) := by
  obtain ⟨h1, h2⟩ := clean_all hr (dirtyL L 0 32) (dirty_apart hr 0 32) (dirty_look hr 0 32)
  have hrc : Rise (cleanL L (dirtyL L 0 32)) := hr.clean _
  have key : ∀ k v, look L k = some v → (k ∈ (dirtyL L 0 32).map (·.1) ↔ v.2 = true) := fun k v e => by
    constructor
    · intro hk
      obtain ⟨c, hc, rfl⟩ := List.mem_map.1 hk
      have := dirty_look hr 0 32 c hc
      rw [e] at this
      injection this with this
      rw [this]
    · intro hv
      refine List.mem_map.2 ⟨(k, v.1), List.mem_map.2 ⟨(k, v), List.mem_filter.2 ⟨look_some e, ?_⟩, rfl⟩, rfl⟩
      have := in_look hi e
      simp [inR, this, hv]
  have all : ∀ k v, look (cleanL L (dirtyL L 0 32)) k = some v → v.2 = false ∧ 0 ≤ k ∧ k < 32 := fun k v e => by
    rw [h2 k] at e
    split at e
    · cases hl : look L k with
      | none => rw [hl] at e; cases e
      | some u =>
        rw [hl] at e
        injection e with e
        rw [← e]
        exact ⟨rfl, in_look hi hl⟩
    · rename_i hn
      refine ⟨?_, in_look hi e⟩
      cases hv : v.2 with
      | false => rfl
      | true => exact absurd ((key k v e).2 hv) hn
  refine ⟨h1, dirty_none hrc fun k v e => (all k v e).1, In32.of_look hrc fun k v e => (all k v e).2, fun k hk hf => ?_⟩
  have hl := (h k hk).1 hf
  rw [h2, if_pos ((key _ _ hl).2 rfl), hl]
  rfl
theorem drop_all {L : List Li} (h : In32 L) : dropL L 0 32 = [] := by
  unfold dropL
  rw [List.filter_eq_nil_iff]
  intro x hx
  have := h x hx
  simp [inR, this]
theorem many_step {L : List Li} (hr : Rise L) {f : Nat → Bool} {s : Nat → List UInt8} (h : KTie L f s) {k : Nat} (hk : k < 32) :
    cntTo L (fun x => inR 0 32 x.1 && x.2.2) (k + 1) = cntTo L (fun x => inR 0 32 x.1 && x.2.2) k + if f k then 1 else 0 := by
  rw [cnt_step hr]
  congr 1
  have hin : inR 0 32 (k : Int) = true := by simp [inR]; omega
  cases hf : f k with
  | true => rw [(h k hk).1 hf]; simp [hin]
  | false =>
    cases hl : look L (k : Int) with
    | none => simp
    | some v => have := (h k hk).2 hf v hl; simp [this]

/-! ### a cache beside two arrays -/
structure Kx (w u : World) (b p q : Nat) (m : Option Nat) (L : List Li) (f : Nat → Bool) (s : Nat → List UInt8) : Prop where
  kc : KC w u b m L
  rng : In32 L
  tie : KTie L f s
  ab : Ar u p 32 (gB f)
  sb : Ar u q 32 (gS s)
  pb : p ≠ b
  qb : q ≠ b
  pq : p ≠ q
  pm : ∀ g, m = some g → g ≠ p
  qm : ∀ g, m = some g → g ≠ q
  lp : w.heap.size ≤ p
  lq : w.heap.size ≤ q
theorem Kx.later {w u v : World} {b p q : Nat} {m : Option Nat} {L : List Li} {f : Nat → Bool} {s : Nat → List UInt8} (h : Kx w u b p q m L f s) (k : Below u.heap.size u v) : Kx w v b p q m L f s :=
  ⟨h.kc.later k, h.rng, h.tie, h.ab.below k, h.sb.below k, h.pb, h.qb, h.pq, h.pm, h.qm, h.lp, h.lq⟩
theorem Kx.ars {w u v : World} {b p q : Nat} {m m' : Option Nat} {L : List Li} {f : Nat → Bool} {s : Nat → List UInt8} (h : Kx w u b p q m L f s) (t : CaTo u v b m m') : Ar v p 32 (gB f) ∧ Ar v q 32 (gS s) :=
  ⟨h.ab.later t.mod (fun e => e.elim h.pb fun e => h.pm p e rfl), h.sb.later t.mod (fun e => e.elim h.qb fun e => h.qm q e rfl)⟩
theorem Kx.mk' {w u v v' : World} {b p q : Nat} {m m' : Option Nat} {L L' : List Li} {f f' : Nat → Bool} {s s' : Nat → List UInt8} (h : Kx w u b p q m L f s) (c : Ca v b m' L') (t : CaTo u v b m m')
    (M : Mod (fun y => y = p ∨ y = q) v v') (ap : Ar v' p 32 (gB f')) (aq : Ar v' q 32 (gS s')) (rng : In32 L') (tie : KTie L' f' s') : Kx w v' b p q m' L' f' s' := by
  have K := h.kc.to c t
  have pm := t.ne h.pm h.ab.lt
  have qm := t.ne h.qm h.sb.lt
  refine ⟨⟨K.ca.later M ?_ ?_, M.below K.below K.below.size ?_, K.low, K.new⟩, rng, tie, ap, aq, h.pb, h.qb, h.pq, pm, qm, h.lp, h.lq⟩
  · rintro (e | e)
    · exact h.pb e.symm
    · exact h.qb e.symm
  · rintro y hy (e | e)
    · exact pm y hy e
    · exact qm y hy e
  · rintro i (rfl | rfl)
    · exact h.lp
    · exact h.lq
theorem Kx.other {w u v : World} {b p q g : Nat} {m : Option Nat} {L : List Li} {f : Nat → Bool} {s : Nat → List UInt8} (h : Kx w u b p q m L f s) (M : Mod (· = g) u v) (hb : g ≠ b) (hm : m ≠ some g) (hp : g ≠ p) (hq : g ≠ q) (hl : w.heap.size ≤ g) : Kx w v b p q m L f s :=
  ⟨⟨h.kc.ca.later M (fun e => hb e.symm) (fun _ hy e => hm (e ▸ hy)), M.below h.kc.below h.kc.below.size (fun _ hi => hi ▸ hl), h.kc.low, h.kc.new⟩, h.rng, h.tie, h.ab.later M (fun e => hp e.symm), h.sb.later M (fun e => hq e.symm), h.pb, h.qb, h.pq, h.pm, h.qm, h.lp, h.lq⟩
/-- A row of changes of the call's own, of which the first ones may have turned. -/
structure Rw (u : World) (g off : Nat) (cs : List Ch) (j : Nat) : Prop where
  lt : g < u.heap.size
  cell : ∀ i x, j ≤ i → cs[i]? = some x → u.cell? ⟨g, off + i * 2, none⟩ = some (.int .i64 x.1) ∧ u.cell? ⟨g, off + i * 2 + 1, none⟩ = some (.string (str x.2)) ∧ u.frozen? ⟨g, off + i * 2, none⟩ = false
theorem Rw.later {S : Nat → Prop} {u v : World} {g off j : Nat} {cs : List Ch} (h : Rw u g off cs j) (M : Mod S u v) (hg : ¬ S g) : Rw v g off cs j :=
  ⟨Nat.lt_of_lt_of_le h.lt M.size, fun i x hi hx => by
    obtain ⟨h1, h2, h3⟩ := h.cell i x hi hx
    exact ⟨(M.cell (p := ⟨g, off + i * 2, none⟩) h.lt hg).trans h1, (M.cell (p := ⟨g, off + i * 2 + 1, none⟩) h.lt hg).trans h2, (M.frozen (p := ⟨g, off + i * 2, none⟩) h.lt hg).trans h3⟩⟩
theorem Rw.below {u v : World} {g off j : Nat} {cs : List Ch} (h : Rw u g off cs j) (M : Below u.heap.size u v) : Rw v g off cs j := h.later (Mod.of_below (S := fun _ => False) M) id
theorem Rw.step {u : World} {g off j : Nat} {cs : List Ch} (h : Rw u g off cs j) (v : Value) : Rw (u.setCell ⟨g, off + j * 2, none⟩ v) g off cs (j + 1) := by
  refine ⟨by simpa [World.setCell] using h.lt, fun i x hi hx => ?_⟩
  obtain ⟨h1, h2, h3⟩ := h.cell i x (by omega) hx
  exact ⟨set_other (fun e => by injection e with _ e; omega) h1, set_other (fun e => by injection e with _ e; omega) h2, set_frozen h3⟩
theorem rw_of {w : World} {A : Option Addr} {n c : Nat} {cs : List Ch} (h : RG w 2 encC (.slice A n c) cs) (hn : 0 < n) : ∃ g off, A = some ⟨g, off, none⟩ ∧ Rw w g off cs 0 := by
  obtain ⟨A', c', e⟩ := h.shape
  injection e with e1 e2 e3
  subst e1 e3
  obtain ⟨g, off, rfl, hlt, _⟩ := (h.is encC_ok).1.cells hn
  refine ⟨g, off, rfl, hlt, fun i x _ hx => ?_⟩
  obtain ⟨h1, h2⟩ := h.cell encC_ok hx (j := 0) (u := .int .i64 x.1) rfl
  obtain ⟨h3, _⟩ := h.cell encC_ok hx (j := 1) (u := .string (str x.2)) rfl
  exact ⟨h1, h3, h2⟩
end Go.Proofs.Ytocnpjmhkgnomaa
