/- How a disk turns: a key, a sector, who is pending, a cache. -/
import Derived.Test.YtcahccjlompilaaDisk
namespace Go.Proofs.Ytcahccjlompilaa
open Go.RowKit Go.MapKept

def DS.key (s : DS) (k v : Int) : DS := { s with keys := fun i => if i = k then v else s.keys i }
def DS.lie (s : DS) (i : Nat) (l : List UInt8) : DS := { s with lies := s.lies.set i l }
def DS.pendTo (s : DS) (l : List Int) : DS := { s with pend := l }
def DS.cacheTo (s : DS) (k : Int) (l : List (Nat × List UInt8)) : DS := { s with caches := fun i => if i = k then l else s.caches i }
def setRole (ρ : Nat → Role) (g : Nat) (r : Role) : Nat → Role := fun i => if i = g then r else ρ i
theorem setRole_same (ρ : Nat → Role) (g : Nat) (r : Role) : setRole ρ g r g = r := if_pos rfl
theorem setRole_other (ρ : Nat → Role) {g i : Nat} (r : Role) (h : i ≠ g) : setRole ρ g r i = ρ i := if_neg h
section
variable {w w' : World} {b n : Nat} {ρ : Nat → Role} {s : DS} {lb kb cb : Nat} {pv : Value} {cf : Int → Option Value}
theorem Dk.keyTo (h : Dk w b ρ n s lb kb cb pv cf) {k v : Int} (hv : v = 1 ∨ v = 2) (hn : n + 1 ≤ 1000000) (m : Mod (· = kb) w w') (hm : IsMap w' kb (n + 1) (put (fun k => if s.keys k = 0 then none else some (.int .i64 (s.keys k))) k (some (.int .i64 v)))) :
    Dk w' b ρ (n + 1) (s.key k v) lb kb cb pv cf := by
  have no : ∀ g, ρ g ≠ .keys → ¬ (g = kb) := fun g hg e => hg (by rw [e, h.rk])
  have nb : ¬ (b = kb) := no b (by rw [h.rb]; intro e; cases e)
  have nl : ¬ (lb = kb) := no lb (by rw [h.rl]; intro e; cases e)
  have nc : ¬ (cb = kb) := no cb (by rw [h.rc]; intro e; cases e)
  have hb := lt_of_cell h.c0
  have hl : lb < w.heap.size := h.top lb (by rw [h.rl]; intro e; cases e)
  have hf := h.fine
  refine ⟨(m.cell (p := ⟨b, 0, none⟩) hb nb).trans h.c0, (m.cell (p := ⟨b, 1, none⟩) hb nb).trans h.c1, (m.cell (p := ⟨b, 2, none⟩) hb nb).trans h.c2, (m.cell (p := ⟨b, 3, none⟩) hb nb).trans h.c3, (m.frozen (p := ⟨b, 3, none⟩) hb nb).trans h.f3,
    h.rb, h.rl, h.rk, h.rc, fun i hi => (m.cell (p := ⟨lb, i, none⟩) hl nl).trans (h.lie i hi), fun i hi => (m.frozen (p := ⟨lb, i, none⟩) hl nl).trans (h.free i hi), ?_, (h.cach.later m nc).mono (Nat.le_succ n), h.no, fun k v hv => ?_, ?_, h.penr, fun g hg => Nat.lt_of_lt_of_le (h.top g hg) m.size, ?_⟩
  · have e : (put (fun k => if s.keys k = 0 then none else some (Value.int .i64 (s.keys k))) k (some (.int .i64 v))) = fun i => if (s.key k v).keys i = 0 then none else some (.int .i64 ((s.key k v).keys i)) := by
      funext i
      by_cases e : i = k
      · subst e
        have : (s.key i v).keys i = v := if_pos rfl
        rw [put_same, this, if_neg (by omega)]
      · have : (s.key k v).keys i = s.keys i := if_neg e
        rw [put_other _ _ e, this]
    rw [← e]
    exact hm
  · obtain ⟨h1, h2, h3⟩ := h.row k v hv
    exact ⟨h1.later m (fun g hg => no g (by rw [h2 g hg]; intro e; cases e)), h2, h3⟩
  · exact h.pen.later m (fun g hg => no g (by rw [h.penr g hg]; intro e; cases e))
  · refine ⟨hf.some, hf.many, hf.whole, fun k => Nat.le_trans (hf.cache k) (Nat.le_succ n), hf.cached, Nat.le_trans hf.pend (Nat.le_succ n), hn, fun i => ?_, hf.pends⟩
    by_cases e : i = k
    · have : (s.key k v).keys i = v := if_pos e
      rw [this]; exact .inr hv
    · have : (s.key k v).keys i = s.keys i := if_neg e
      rw [this]; exact hf.three i
theorem Dk.lieTo (h : Dk w b ρ n s lb kb cb pv cf) (i : Nat) (l : List UInt8) (hl : l.length = 512) : Dk (w.setCell ⟨lb, i, none⟩ (.string (str l))) b ρ n (s.lie i l) lb kb cb pv cf := by
  have m : Mod (· = lb) w (w.setCell ⟨lb, i, none⟩ (.string (str l))) := (Mod.refl _ w).set1 _
  have no : ∀ g, ρ g ≠ .lies → ¬ (g = lb) := fun g hg e => hg (by rw [e, h.rl])
  have nb : ¬ (b = lb) := no b (by rw [h.rb]; intro e; cases e)
  have nk : ¬ (kb = lb) := no kb (by rw [h.rk]; intro e; cases e)
  have nc : ¬ (cb = lb) := no cb (by rw [h.rc]; intro e; cases e)
  have hb := lt_of_cell h.c0
  have hf := h.fine
  have hlen : (s.lie i l).lies.length = s.lies.length := List.length_set
  refine ⟨?_, (m.cell (p := ⟨b, 1, none⟩) hb nb).trans h.c1, (m.cell (p := ⟨b, 2, none⟩) hb nb).trans h.c2, (m.cell (p := ⟨b, 3, none⟩) hb nb).trans h.c3, (m.frozen (p := ⟨b, 3, none⟩) hb nb).trans h.f3,
    h.rb, h.rl, h.rk, h.rc, fun j hj => ?_, fun j hj => ?_, h.keys.later m nk, h.cach.later m nc, h.no, fun k v hv => ?_, ?_, h.penr, fun g hg => Nat.lt_of_lt_of_le (h.top g hg) m.size, ?_⟩
  · rw [hlen]
    exact (m.cell (p := ⟨b, 0, none⟩) hb nb).trans h.c0
  · have hj' : j < s.lies.length := by rw [← hlen]; exact hj
    by_cases e : i = j
    · subst e
      rw [set_same (h.lie i hj')]
      simp [DS.lie]
    · rw [set_other (fun h => e (by injection h)) (h.lie j hj')]
      simp [DS.lie, e]
  · exact set_frozen (h.free j (by rw [← hlen]; exact hj))
  · obtain ⟨h1, h2, h3⟩ := h.row k v hv
    exact ⟨h1.later m (fun g hg => no g (by rw [h2 g hg]; intro e; cases e)), h2, h3⟩
  · exact h.pen.later m (fun g hg => no g (by rw [h.penr g hg]; intro e; cases e))
  · refine ⟨by rw [hlen]; exact hf.some, by rw [hlen]; exact hf.many, fun x hx => ?_, hf.cache, fun k p hp => by rw [hlen]; exact hf.cached k p hp, hf.pend, hf.small, hf.three, hf.pends⟩
    rcases List.mem_or_eq_of_mem_set hx with hx | rfl
    · exact hf.whole x hx
    · exact hl
theorem Dk.pendTo (h : Dk w b ρ n s lb kb cb pv cf) {w1 : World} {pv' : Value} {l : List Int} (m : Mod (fun g => blk pv = some g) w w1) (hr : Row w1 1 pv' l.length (ci l)) (hl : l.length ≤ n + 1) (hn : n + 1 ≤ 1000000) (hw : ∀ k ∈ l, (Lit.int .i64 k).wf = true)
    (hb' : ∀ g, blk pv' = some g → blk pv = some g ∨ w.heap.size ≤ g) :
    ∃ ρ', Dk (w1.setCell ⟨b, 3, none⟩ pv') b ρ' (n + 1) (s.pendTo l) lb kb cb pv' cf ∧ Step w ρ (w1.setCell ⟨b, 3, none⟩ pv') ρ' := by
  have hb := lt_of_cell h.c0
  have hll : lb < w.heap.size := h.top lb (by rw [h.rl]; intro e; cases e)
  have m2 : Mod (fun g => g = b ∨ blk pv = some g) w (w1.setCell ⟨b, 3, none⟩ pv') := (m.mono (T := fun g => g = b ∨ blk pv = some g) (fun k _ hk => .inr hk)).setCell (.inl (.inl rfl)) _
  have no : ∀ g, ρ g ≠ .head → ρ g ≠ .pend → ¬ (g = b ∨ blk pv = some g) := fun g h1 h2 h3 => by
    rcases h3 with rfl | h3
    · exact h1 h.rb
    · exact h2 (h.penr g h3)
  have nbp : ¬ (blk pv = some b) := fun e => by have := h.penr b e; rw [h.rb] at this; cases this
  have nl := no lb (by rw [h.rl]; intro e; cases e) (by rw [h.rl]; intro e; cases e)
  have nk := no kb (by rw [h.rk]; intro e; cases e) (by rw [h.rk]; intro e; cases e)
  have nc := no cb (by rw [h.rc]; intro e; cases e) (by rw [h.rc]; intro e; cases e)
  have hf := h.fine
  have c3 : w1.cell? ⟨b, 3, none⟩ = some pv := (m.cell (p := ⟨b, 3, none⟩) hb nbp).trans h.c3
  have hnb : ∀ g, blk pv' = some g → g ≠ b := fun g hg e => by
    subst e
    rcases hb' g hg with h1 | h1
    · exact nbp h1
    · omega
  obtain ⟨ρ', hρ⟩ : ∃ ρ' : Nat → Role, (∀ g, (blk pv' = some g ∧ ρ' g = .pend) ∨ (blk pv' ≠ some g ∧ ρ' g = ρ g)) := by
    refine ⟨fun g => match blk pv' with | some g' => if g = g' then .pend else ρ g | none => ρ g, fun g => ?_⟩
    cases hp : blk pv' with
    | none => exact .inr ⟨by simp, rfl⟩
    | some g' =>
      by_cases e : g = g'
      · subst e; exact .inl ⟨rfl, by simp⟩
      · exact .inr ⟨by simpa using fun h => e h.symm, by simp [e]⟩
  have old : ∀ g, g < w.heap.size → ρ' g = ρ g := fun g hg => by
    rcases hρ g with ⟨h1, h2⟩ | ⟨_, h2⟩
    · rcases hb' g h1 with h3 | h3
      · rw [h2, h.penr g h3]
      · omega
    · exact h2
  refine ⟨ρ', ⟨?_, ?_, ?_, ?_, ?_, by rw [old b hb]; exact h.rb, by rw [old lb hll]; exact h.rl, by rw [old kb h.keys.lt]; exact h.rk, by rw [old cb h.cach.lt]; exact h.rc, fun i hi => (m2.cell (p := ⟨lb, i, none⟩) hll nl).trans (h.lie i hi), fun i hi => (m2.frozen (p := ⟨lb, i, none⟩) hll nl).trans (h.free i hi),
    (h.keys.later m2 nk).mono (Nat.le_succ n), (h.cach.later m2 nc).mono (Nat.le_succ n), h.no, fun k v hv => ?_, ?_, fun g hg => ?_, fun g hg => ?_, ?_⟩, ⟨m2.mono (fun k hk hS => ?_), fun g hg hr => by rw [← old g hg]; exact hr⟩⟩
  · exact set_other (by simp) ((m.cell (p := ⟨b, 0, none⟩) hb nbp).trans h.c0)
  · exact set_other (by simp) ((m.cell (p := ⟨b, 1, none⟩) hb nbp).trans h.c1)
  · exact set_other (by simp) ((m.cell (p := ⟨b, 2, none⟩) hb nbp).trans h.c2)
  · exact set_same c3
  · exact set_frozen ((m.frozen (p := ⟨b, 3, none⟩) hb nbp).trans h.f3)
  · obtain ⟨h1, h2, h3⟩ := h.row k v hv
    refine ⟨h1.later m2 (fun g hg => no g (by rw [h2 g hg]; intro e; cases e) (by rw [h2 g hg]; intro e; cases e)), fun g hg => ?_, h3⟩
    rw [old g (h1.blk_lt hg)]
    exact h2 g hg
  · exact hr.later (S := (· = b)) ((Mod.refl _ w1).set1 _) (fun g hg => hnb g hg)
  · rcases hρ g with ⟨_, h2⟩ | ⟨h1, _⟩
    · exact h2
    · exact absurd hg h1
  · rcases hρ g with ⟨h1, _⟩ | ⟨_, h2⟩
    · have := hr.blk_lt h1
      simpa [World.setCell] using this
    · rw [h2] at hg
      exact Nat.lt_of_lt_of_le (h.top g hg) m2.size
  · exact ⟨hf.some, hf.many, hf.whole, fun k => Nat.le_trans (hf.cache k) (Nat.le_succ n), hf.cached, hl, hn, hf.three, hw⟩
  · rcases hS with rfl | hS
    · rw [h.rb]; intro e; cases e
    · rw [h.penr k hS]; intro e; cases e
theorem Dk.cacheTo (h : Dk w b ρ n s lb kb cb pv cf) {k : Int} {w1 : World} {v0 v' : Value} {l : List (Nat × List UInt8)} (hn : n + 1 ≤ 1000000) (hv0 : blk v0 = none ∨ cf k = some v0) (m : Mod (fun g => blk v0 = some g) w w1) (hr : Row w1 2 v' l.length (cw l)) (hb' : blk v' = blk v0 ∨ ∃ g, blk v' = some g ∧ w.heap.size ≤ g)
    (hl : l.length ≤ n + 1) (h0 : 0 < l.length) (hc : ∀ p ∈ l, p.1 < s.lies.length ∧ p.2.length = 512)
    (m1 : Mod (· = cb) w1 w') (hm : IsMap w' cb (n + 1) (put cf k (some v'))) :
    ∃ ρ', Dk w' b ρ' (n + 1) (s.cacheTo k l) lb kb cb pv (put cf k (some v')) ∧ Step w ρ w' ρ' := by
  have hb := lt_of_cell h.c0
  have hll : lb < w.heap.size := h.top lb (by rw [h.rl]; intro e; cases e)
  have hv0r : ∀ g, blk v0 = some g → ρ g = .cache k := fun g hg => by
    rcases hv0 with h1 | h1
    · rw [h1] at hg; cases hg
    · exact (h.row k v0 h1).2.1 g hg
  have m2 : Mod (fun g => g = cb ∨ blk v0 = some g) w w' := (m.mono (T := fun g => g = cb ∨ blk v0 = some g) (fun k _ hk => .inr hk)).trans (m1.mono (fun k _ hk => .inl hk))
  have no : ∀ g, ρ g ≠ .caches → ρ g ≠ .cache k → ¬ (g = cb ∨ blk v0 = some g) := fun g h1 h2 h3 => by
    rcases h3 with rfl | h3
    · exact h1 h.rc
    · exact h2 (hv0r g h3)
  have nb := no b (by rw [h.rb]; intro e; cases e) (by rw [h.rb]; intro e; cases e)
  have nl := no lb (by rw [h.rl]; intro e; cases e) (by rw [h.rl]; intro e; cases e)
  have nk := no kb (by rw [h.rk]; intro e; cases e) (by rw [h.rk]; intro e; cases e)
  have hf := h.fine
  have ncb : ∀ g, blk v' = some g → g ≠ cb := fun g hg e => by
    subst e
    rcases hb' with h1 | ⟨g', h1, h2⟩
    · rw [h1] at hg
      have := hv0r _ hg
      rw [h.rc] at this
      cases this
    · rw [hg] at h1
      injection h1 with h1
      have := h.cach.lt
      omega
  obtain ⟨ρ', hρ⟩ : ∃ ρ' : Nat → Role, (∀ g, (blk v' = some g ∧ ρ' g = .cache k) ∨ (blk v' ≠ some g ∧ ρ' g = ρ g)) := by
    refine ⟨fun g => match blk v' with | some g' => if g = g' then .cache k else ρ g | none => ρ g, fun g => ?_⟩
    cases hp : blk v' with
    | none => exact .inr ⟨by simp, rfl⟩
    | some g' =>
      by_cases e : g = g'
      · subst e; exact .inl ⟨rfl, by simp⟩
      · exact .inr ⟨by simpa using fun h => e h.symm, by simp [e]⟩
  have old : ∀ g, g < w.heap.size → ρ' g = ρ g := fun g hg => by
    rcases hρ g with ⟨h1, h2⟩ | ⟨_, h2⟩
    · rcases hb' with h3 | ⟨g', h3, h4⟩
      · rw [h3] at h1
        rw [h2, hv0r g h1]
      · rw [h1] at h3
        injection h3 with h3
        omega
    · exact h2
  refine ⟨ρ', ⟨(m2.cell (p := ⟨b, 0, none⟩) hb nb).trans h.c0, (m2.cell (p := ⟨b, 1, none⟩) hb nb).trans h.c1, (m2.cell (p := ⟨b, 2, none⟩) hb nb).trans h.c2, (m2.cell (p := ⟨b, 3, none⟩) hb nb).trans h.c3, (m2.frozen (p := ⟨b, 3, none⟩) hb nb).trans h.f3,
    by rw [old b hb]; exact h.rb, by rw [old lb hll]; exact h.rl, by rw [old kb h.keys.lt]; exact h.rk, by rw [old cb h.cach.lt]; exact h.rc, fun i hi => (m2.cell (p := ⟨lb, i, none⟩) hll nl).trans (h.lie i hi), fun i hi => (m2.frozen (p := ⟨lb, i, none⟩) hll nl).trans (h.free i hi),
    (h.keys.later m2 nk).mono (Nat.le_succ n), hm, fun i hi => ?_, fun i v hv => ?_, ?_, fun g hg => ?_, fun g hg => ?_, ?_⟩, ⟨m2.mono (fun i hi hS => ?_), fun g hg hr => by rw [← old g hg]; exact hr⟩⟩
  · by_cases e : i = k
    · rw [e, put_same] at hi; cases hi
    · rw [put_other _ _ e] at hi
      show (if i = k then l else s.caches i) = []
      rw [if_neg e]
      exact h.no i hi
  · by_cases e : i = k
    · subst e
      rw [put_same] at hv
      obtain rfl := Option.some.inj hv
      have e2 : (s.cacheTo i l).caches i = l := if_pos rfl
      rw [e2]
      refine ⟨hr.later m1 (fun g hg => ncb g hg), fun g hg => ?_, h0⟩
      rcases hρ g with ⟨_, h2⟩ | ⟨h1, _⟩
      · exact h2
      · exact absurd hg h1
    · rw [put_other _ _ e] at hv
      have e2 : (s.cacheTo k l).caches i = s.caches i := if_neg e
      rw [e2]
      obtain ⟨h1, h2, h3⟩ := h.row i v hv
      have hne : ∀ g, blk v = some g → ρ g ≠ .cache k := fun g hg e3 => by
        rw [h2 g hg] at e3
        exact e (Role.cache_inj e3)
      refine ⟨h1.later m2 (fun g hg => no g (by rw [h2 g hg]; intro e; cases e) (hne g hg)), fun g hg => ?_, h3⟩
      rw [old g (h1.blk_lt hg)]
      exact h2 g hg
  · exact h.pen.later m2 (fun g hg => no g (by rw [h.penr g hg]; intro e; cases e) (by rw [h.penr g hg]; intro e; cases e))
  · rw [old g (h.pen.blk_lt hg)]
    exact h.penr g hg
  · rcases hρ g with ⟨h1, _⟩ | ⟨_, h2⟩
    · exact Nat.lt_of_lt_of_le (hr.blk_lt h1) m1.size
    · rw [h2] at hg
      exact Nat.lt_of_lt_of_le (h.top g hg) m2.size
  · refine ⟨hf.some, hf.many, hf.whole, fun i => ?_, fun i p hp => ?_, Nat.le_trans hf.pend (Nat.le_succ n), hn, hf.three, hf.pends⟩
    · show (if i = k then l else s.caches i).length ≤ n + 1
      split
      · exact hl
      · exact Nat.le_trans (hf.cache i) (Nat.le_succ n)
    · change p ∈ (if i = k then l else s.caches i) at hp
      split at hp
      · exact hc p hp
      · exact hf.cached i p hp
  · rcases hS with rfl | hS
    · rw [h.rc]; intro e; cases e
    · rw [hv0r i hS]; intro e; cases e
theorem Dk.cacheNone (h : Dk w b ρ n s lb kb cb pv cf) {k : Int} (m : Mod (· = cb) w w') (hm : IsMap w' cb n (put cf k none)) : Dk w' b ρ n (s.cacheTo k []) lb kb cb pv (put cf k none) := by
  have no : ∀ g, ρ g ≠ .caches → ¬ (g = cb) := fun g hg e => hg (by rw [e, h.rc])
  have nb : ¬ (b = cb) := no b (by rw [h.rb]; intro e; cases e)
  have nl : ¬ (lb = cb) := no lb (by rw [h.rl]; intro e; cases e)
  have nk : ¬ (kb = cb) := no kb (by rw [h.rk]; intro e; cases e)
  have hb := lt_of_cell h.c0
  have hl : lb < w.heap.size := h.top lb (by rw [h.rl]; intro e; cases e)
  have hf := h.fine
  refine ⟨(m.cell (p := ⟨b, 0, none⟩) hb nb).trans h.c0, (m.cell (p := ⟨b, 1, none⟩) hb nb).trans h.c1, (m.cell (p := ⟨b, 2, none⟩) hb nb).trans h.c2, (m.cell (p := ⟨b, 3, none⟩) hb nb).trans h.c3, (m.frozen (p := ⟨b, 3, none⟩) hb nb).trans h.f3,
    h.rb, h.rl, h.rk, h.rc, fun i hi => (m.cell (p := ⟨lb, i, none⟩) hl nl).trans (h.lie i hi), fun i hi => (m.frozen (p := ⟨lb, i, none⟩) hl nl).trans (h.free i hi), h.keys.later m nk, hm, fun i hi => ?_, fun i v hv => ?_, ?_, h.penr, fun g hg => Nat.lt_of_lt_of_le (h.top g hg) m.size, ?_⟩
  · show (if i = k then [] else s.caches i) = []
    split
    · rfl
    · rename_i e
      rw [put_other _ _ e] at hi
      exact h.no i hi
  · by_cases e : i = k
    · rw [e, put_same] at hv; cases hv
    · rw [put_other _ _ e] at hv
      have e2 : (s.cacheTo k []).caches i = s.caches i := if_neg e
      rw [e2]
      obtain ⟨h1, h2, h3⟩ := h.row i v hv
      exact ⟨h1.later m (fun g hg => no g (by rw [h2 g hg]; intro e; cases e)), h2, h3⟩
  · exact h.pen.later m (fun g hg => no g (by rw [h.penr g hg]; intro e; cases e))
  · refine ⟨hf.some, hf.many, hf.whole, fun i => ?_, fun i p hp => ?_, hf.pend, hf.small, hf.three, hf.pends⟩
    · show (if i = k then [] else s.caches i).length ≤ n
      split
      · exact Nat.zero_le _
      · exact hf.cache i
    · change p ∈ (if i = k then [] else s.caches i) at hp
      split at hp
      · simp at hp
      · exact hf.cached i p hp
/-- A disk of which only its own blocks were turned. -/
theorem step_of {g0 : Nat} (hg : ρ g0 ≠ .no) (m : Mod (· = g0) w w') : Step w ρ w' ρ :=
  ⟨m.mono (fun k _ e => by subst e; exact hg), fun _ _ h => h⟩
end
end Go.Proofs.Ytcahccjlompilaa
