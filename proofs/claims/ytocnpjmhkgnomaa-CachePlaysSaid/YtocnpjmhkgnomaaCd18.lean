/- PLAIN: how many lines there are, sector by sector; which of them are dirty. -/
import Derived.Test.YtocnpjmhkgnomaaCl18
namespace Go.Proofs.Ytocnpjmhkgnomaa
open Go.RowKit

def cntTo (L : List Li) (p : Li → Bool) (n : Nat) : Nat := (L.filter fun x => decide (x.1 < (n : Int)) && p x).length
theorem cnt_zero {L : List Li} (h : In32 L) (p : Li → Bool) : cntTo L p 0 = 0 := by
  unfold cntTo
  rw [List.filter_eq_nil_iff.2]
  · rfl
  · intro x hx
    have := (h x hx).1
    simp
    omega
theorem cnt_all {L : List Li} (h : In32 L) (p : Li → Bool) : cntTo L p 32 = (L.filter p).length := by
  unfold cntTo
  congr 1
  refine List.filter_congr fun x hx => ?_
  have := (h x hx).2
  have e : decide (x.1 < ((32 : Nat) : Int)) = true := by simpa using this
  rw [e, Bool.true_and]
theorem cnt_step {L : List Li} (hr : Rise L) (p : Li → Bool) (k : Nat) : cntTo L p (k + 1) = cntTo L p k + if ((look L (k : Int)).map fun v => p ((k : Int), v)).getD false then 1 else 0 := by
  unfold cntTo
  induction L with
  | nil => rfl
  | cons a L ih =>
    obtain ⟨h1, h2⟩ := List.pairwise_cons.1 hr
    obtain ⟨a1, a2⟩ := a
    rw [List.filter_cons, List.filter_cons, look]
    by_cases e : a1 = (k : Int)
    · subst e
      rw [if_pos rfl]
      have e0 : ∀ n : Nat, n ≤ k + 1 → (L.filter fun x => decide (x.1 < (n : Int)) && p x) = [] := fun n hn => List.filter_eq_nil_iff.2 fun x hx => by
        have := h1 x hx
        have h3 : (k : Int) < x.1 := this
        simp
        omega
      rw [e0 _ (Nat.le_refl _), e0 _ (Nat.le_succ _)]
      have l1 : ((k : Int) < ((k + 1 : Nat) : Int)) := by omega
      have l2 : ¬ ((k : Int) < (k : Int)) := by omega
      have l3 : ((k : Int) < (k : Int) + 1) := by omega
      cases hp : p ((k : Int), a2) <;> simp [hp, l3]
    · rw [if_neg e]
      have l1 : (decide (a1 < ((k + 1 : Nat) : Int))) = decide (a1 < (k : Int)) := by
        by_cases h : a1 < (k : Int)
        · simp [h]; omega
        · simp [h]; omega
      simp only [l1]
      split
      · rw [List.length_cons, List.length_cons, ih h2]; omega
      · exact ih h2
/-- Which are dirty. -/
def DTie (L : List Li) (d : Nat → Bool) : Prop := ∀ k, k < 32 → d k = ((look L (k : Int)).map fun v => v.2).getD false
theorem dtie_nil : DTie [] (fun _ => false) := fun _ _ => rfl
theorem DTie.set {L : List Li} {d : Nat → Bool} (h : DTie L d) (hr : Rise L) (k : Nat) (v : List UInt8) : DTie (setL L ((k : Int), v, true)) (upd d k true) := by
  intro j hj
  rw [look_set hr]
  by_cases e : j = k
  · subst e; simp [upd]
  · rw [upd_other _ _ e, if_neg (by show (j : Int) ≠ k; omega)]; exact h j hj
theorem DTie.load {L : List Li} {d : Nat → Bool} (h : DTie L d) (hr : Rise L) (k : Nat) (v : List UInt8) : DTie (loadL L (k : Int) v) d := by
  intro j hj
  unfold loadL
  split
  · rename_i hn
    rw [look_set hr]
    by_cases e : j = k
    · subst e
      have := h j hj
      rw [hn] at this
      simpa using this
    · rw [if_neg (by show (j : Int) ≠ k; omega)]; exact h j hj
  · exact h j hj
theorem inR_nat (a b k : Nat) : inR (a : Int) (b : Int) (k : Int) = (decide (a ≤ k) && decide (k < b)) := by
  unfold inR
  by_cases h1 : a ≤ k <;> by_cases h2 : k < b <;> simp [h1, h2]
theorem gone_step {L : List Li} (hr : Rise L) {d : Nat → Bool} (hd : DTie L d) (a b : Nat) {k : Nat} (hk : k < 32) :
    cntTo L (fun x => inR a b x.1 && x.2.2) (k + 1) = cntTo L (fun x => inR a b x.1 && x.2.2) k + if (decide (a ≤ k) && decide (k < b)) && d k then 1 else 0 := by
  rw [cnt_step hr, hd k hk]
  congr 1
  have := inR_nat a b k
  cases look L (k : Int) with
  | none => simp
  | some v => simp [this]
theorem left_step {L : List Li} (hr : Rise L) {f : Nat → Bool} {s : Nat → List UInt8} (ht : Tie L f s) (a b : Nat) {k : Nat} (hk : k < 32) :
    cntTo L (fun x => !inR a b x.1) (k + 1) = cntTo L (fun x => !inR a b x.1) k + if !(decide (a ≤ k) && decide (k < b)) && f k then 1 else 0 := by
  rw [cnt_step hr, ht.is k hk]
  congr 1
  have := inR_nat a b k
  cases look L (k : Int) with
  | none => simp
  | some v => simp [this]
theorem dropN (L : List Li) (a b : Int) : (dropL L a b).length = (L.filter fun x => !inR a b x.1).length := rfl
theorem dirtyN (L : List Li) (a b : Int) : (dirtyL L a b).length = (L.filter fun x => inR a b x.1 && x.2.2).length := by rw [dirtyL, List.length_map]
/-- Three arrays of 32 beside a cache. -/
structure Lx (w u : World) (b p q r : Nat) (m : Option Nat) (L : List Li) (f : Nat → Bool) (s : Nat → List UInt8) (d : Nat → Bool) : Prop where
  lw : Lw w u b p q m L f s
  dt : DTie L d
  rb : Ar u r 32 (gB d)
  nb : r ≠ b
  np : r ≠ p
  nq : r ≠ q
  nm : ∀ g, m = some g → g ≠ r
  lr : w.heap.size ≤ r
theorem Lx.later {w u v : World} {b p q r : Nat} {m : Option Nat} {L : List Li} {f : Nat → Bool} {s : Nat → List UInt8} {d : Nat → Bool} (h : Lx w u b p q r m L f s d) (k : Below u.heap.size u v) : Lx w v b p q r m L f s d :=
  ⟨h.lw.later k, h.dt, h.rb.below k, h.nb, h.np, h.nq, h.nm, h.lr⟩
theorem Lx.mk' {w u v v' : World} {b p q r : Nat} {m m' : Option Nat} {L L' : List Li} {f f' : Nat → Bool} {s s' : Nat → List UInt8} {d d' : Nat → Bool} (h : Lx w u b p q r m L f s d) (c : Ca v b m' L') (t : CaTo u v b m m')
    (M : Mod (fun y => y = p ∨ y = q ∨ y = r) v v') (ap : Ar v' p 32 (gB f')) (aq : Ar v' q 32 (gS s')) (ar : Ar v' r 32 (gB d')) (rng : In32 L') (tie : Tie L' f' s') (dt : DTie L' d') : Lx w v' b p q r m' L' f' s' d' := by
  have K := h.lw.kc.to c t
  have pm := t.ne h.lw.pm h.lw.ab.lt
  have qm := t.ne h.lw.qm h.lw.sb.lt
  have rm := t.ne h.nm h.rb.lt
  refine ⟨⟨⟨K.ca.later M ?_ ?_, M.below K.below K.below.size ?_, K.low, K.new⟩, rng, tie, ap, aq, h.lw.pb, h.lw.qb, h.lw.pq, pm, qm, h.lw.lp, h.lw.lq⟩, dt, ar, h.nb, h.np, h.nq, rm, h.lr⟩
  · rintro (e | e | e)
    · exact h.lw.pb e.symm
    · exact h.lw.qb e.symm
    · exact h.nb e.symm
  · rintro y hy (e | e | e)
    · exact pm y hy e
    · exact qm y hy e
    · exact rm y hy e
  · rintro i (rfl | rfl | rfl)
    · exact h.lw.lp
    · exact h.lw.lq
    · exact h.lr
theorem Lx.ars {w u v : World} {b p q r : Nat} {m m' : Option Nat} {L : List Li} {f : Nat → Bool} {s : Nat → List UInt8} {d : Nat → Bool} (h : Lx w u b p q r m L f s d) (t : CaTo u v b m m') : Ar v p 32 (gB f) ∧ Ar v q 32 (gS s) ∧ Ar v r 32 (gB d) :=
  ⟨h.lw.ab.later t.mod (fun e => e.elim h.lw.pb fun e => h.lw.pm p e rfl), h.lw.sb.later t.mod (fun e => e.elim h.lw.qb fun e => h.lw.qm q e rfl), h.rb.later t.mod (fun e => e.elim h.nb fun e => h.nm r e rfl)⟩
theorem m3 {p q r : Nat} (v : World) {g : Nat} (hg : g = p ∨ g = q ∨ g = r) (k : Nat) (x : Value) {v' : World} (h : Mod (fun y => y = p ∨ y = q ∨ y = r) v v') : Mod (fun y => y = p ∨ y = q ∨ y = r) v (v'.setCell ⟨g, k, none⟩ x) := h.setCell (p := ⟨g, k, none⟩) (.inl hg) x
theorem rem33 (x : Int) : ∃ a : Nat, Hid ((wrap64 (x.tmod 33 + 33)).tmod 33 = (a : Int)) ∧ a ≤ 32 := by
  have h1 : -33 < x.tmod 33 := by
    have := Int.lt_tmod_of_pos x (b := 33) (by decide); omega
  have h2 : x.tmod 33 < 33 := Int.tmod_lt_of_pos x (by decide)
  have h3 : wrap64 (x.tmod 33 + 33) = x.tmod 33 + 33 := IntWalk.wrap64_in _ (by omega)
  refine ⟨((x.tmod 33 + 33).tmod 33).toNat, Lib.hid ?_, ?_⟩
  · rw [h3]
    have := Int.tmod_nonneg 33 (show 0 ≤ x.tmod 33 + 33 by omega)
    omega
  · have := Int.tmod_lt_of_pos (x.tmod 33 + 33) (b := 33) (by decide)
    omega
def offF (a b : Nat) (f : Nat → Bool) (t : Nat) : Nat → Bool := fun j => f j && !(decide (j < t) && (decide (a ≤ j) && decide (j < b)))
theorem offF_zero (a b : Nat) (f : Nat → Bool) : offF a b f 0 = f := by funext j; simp [offF]
theorem offF_in {a b : Nat} {f : Nat → Bool} {t : Nat} (h : a ≤ t ∧ t < b) : ∀ j, gB (offF a b f (t + 1)) j = if j = t then .bool false else gB (offF a b f t) j := by
  intro j
  unfold gB offF
  by_cases e : j = t
  · subst e; simp [h]
  · rw [if_neg e]
    have : decide (j < t + 1) = decide (j < t) := by
      by_cases h : j < t
      · simp [h]; omega
      · simp [h]; omega
    rw [this]
theorem offF_out {a b : Nat} {f : Nat → Bool} {t : Nat} (h : ¬ (a ≤ t ∧ t < b)) : offF a b f (t + 1) = offF a b f t := by
  funext j
  unfold offF
  by_cases e : j = t
  · subst e
    have : (decide (a ≤ j) && decide (j < b)) = false := by simp; omega
    rw [this]
    simp
  · have : decide (j < t + 1) = decide (j < t) := by
      by_cases h : j < t
      · simp [h]; omega
      · simp [h]; omega
    rw [this]
theorem offF_at (a b : Nat) (f : Nat → Bool) (t : Nat) : offF a b f t t = f t := by simp [offF]
theorem offF_end (a b : Nat) (f : Nat → Bool) {j : Nat} (h : j < 32) : offF a b f 32 j = (f j && !(decide (a ≤ j) && decide (j < b))) := by simp [offF, h]
theorem cnt_le (L : List Li) (p : Li → Bool) (n : Nat) : cntTo L p n ≤ L.length := List.length_filter_le _ _
theorem Lx.off {w u v : World} {b p q r : Nat} {m : Option Nat} {L : List Li} {f : Nat → Bool} {s : Nat → List UInt8} {d : Nat → Bool} (h : Lx w u b p q r m L f s d) (M : Mod (· = p) u v) : KC w v b m L ∧ Ar v q 32 (gS s) ∧ Ar v r 32 (gB d) :=
  ⟨⟨h.lw.kc.ca.later M (fun e => h.lw.pb e.symm) (fun y hy => h.lw.pm y hy), M.below h.lw.kc.below h.lw.kc.below.size (fun _ hi => hi ▸ h.lw.lp), h.lw.kc.low, h.lw.kc.new⟩, h.lw.sb.later M (fun e => h.lw.pq e.symm), h.rb.later M (fun e => h.np e)⟩
theorem known_drop {L : List Li} (hr : Rise L) {f : Nat → Bool} {s : Nat → List UInt8} (ht : Tie L f s) (a b : Nat) {k : Nat} (hk : k < 32) :
    (look (dropL L a b) (k : Int)).isSome = offF a b f 32 k ∧ (offF a b f 32 k = true → (kvOf (dropL L a b) (k : Int)).1 = s k) := by
  have e := look_drop hr (a : Int) (b : Int) (k : Int)
  rw [inR_nat] at e
  rw [offF_end a b f hk, e, ht.is k hk]
  refine ⟨?_, fun h => ?_⟩
  · cases h : (decide (a ≤ k) && decide (k < b)) <;> simp
  · simp only [Bool.and_eq_true, Bool.not_eq_true'] at h
    rw [kvOf, e, h.2]
    have hf : f k = true := by rw [ht.is k hk]; exact h.1
    exact (ht.want k hk hf).symm
end Go.Proofs.Ytocnpjmhkgnomaa
