/- Three rows beside each other: a list, names, and their sectors; at this translation. -/
import Derived.Test.YtnoidhfhnaemgaaDoorKp15
namespace Go.Proofs.YtnoidhfhnaemgaaDoor
open Go.RowKit

def encI (x : Int) : List Value := [.int .i64 x]
theorem encI_ok : Enc 1 encI := ⟨fun _ => rfl, by intro a u hu; simp [encI] at hu; subst hu; rfl, by decide⟩
theorem iInfo0 : (Tryd.prog.info? 3).map (fun i => (i.zero, i.size, i.bytes)) = some (some (.int .i64 0), 1, 8) := by kernel_rfl
theorem iInf : Inf 42 3 1 8 := ⟨Tryd.underlying42, by
  have h := iInfo0
  cases hq : Tryd.prog.info? 3 with
  | none => rw [hq] at h; cases h
  | some i0 =>
    rw [hq] at h
    simp only [Option.map_some, Option.some.injEq, Prod.mk.injEq] at h
    exact ⟨i0, _, rfl, h.1, h.2.1, h.2.2, rfl⟩⟩
theorem i_one (w : World) (x : Int) (ty : TypeId) : IsG (w.alloc (.cells #[.int .i64 x] ty)) 1 encI (some ⟨w.heap.size, 0, none⟩) 1 [x] :=
  IsG.one (by simp) (fun j u hj => match j, hj with
    | 0, hj => by simp [encI] at hj; subst hj; simp [go_sem]
    | j + 1, hj => by simp [encI] at hj)
structure Ks (w0 u : World) (M : List Ent) (N : List (List UInt8)) (S : List Int) (m ns sc : Value) : Prop where
  kp : Kp M N S
  rm : RG u 2 encN m M
  rn : RG u 1 encT ns N
  rs : RG u 1 encI sc S
  nm : ∀ g, blk m = some g → w0.heap.size ≤ g
  nn : ∀ g, blk ns = some g → w0.heap.size ≤ g
  nsc : ∀ g, blk sc = some g → w0.heap.size ≤ g
  a1 : ∀ g, blk m = some g → blk ns ≠ some g
  a2 : ∀ g, blk m = some g → blk sc ≠ some g
  a3 : ∀ g, blk ns = some g → blk sc ≠ some g
  below : Below w0.heap.size w0 u
theorem Ks.later {w0 u x : World} {M : List Ent} {N : List (List UInt8)} {S : List Int} {m ns sc : Value} (h : Ks w0 u M N S m ns sc) (b : Below u.heap.size u x) : Ks w0 x M N S m ns sc :=
  ⟨h.kp, h.rm.below b, h.rn.below b, h.rs.below b, h.nm, h.nn, h.nsc, h.a1, h.a2, h.a3, bnext h.below b⟩
/-- A name more, and its sector. -/
theorem Ks.more {w0 u x y : World} {M : List Ent} {N : List (List UInt8)} {S : List Int} {m ns sc ns' sc' : Value} (h : Ks w0 u M N S m ns sc) {s : List UInt8} (hs : s ∉ N) (hn : nameB s = true)
    (r1 : RG x 1 encT ns' (N ++ [s])) (ux : Mod (fun g => blk ns = some g) u x) (k1 : blk ns' = blk ns ∨ ∃ g, blk ns' = some g ∧ u.heap.size ≤ g)
    (r2 : RG y 1 encI sc' (S ++ [-1])) (xy : Mod (fun g => blk sc = some g) x y) (k2 : blk sc' = blk sc ∨ ∃ g, blk sc' = some g ∧ x.heap.size ≤ g) : Ks w0 y M (N ++ [s]) (S ++ [-1]) m ns' sc' := by
  have s1 := ux.size
  have s2 := xy.size
  have hb := h.below.size
  have c1 : ∀ g, blk ns' = some g → (blk ns = some g ∨ u.heap.size ≤ g) := fun g e => by
    rcases k1 with k | ⟨g2, k, k3⟩
    · exact .inl (k ▸ e)
    · rw [k] at e; obtain rfl := Option.some.inj e; exact .inr k3
  have c2 : ∀ g, blk sc' = some g → (blk sc = some g ∨ x.heap.size ≤ g) := fun g e => by
    rcases k2 with k | ⟨g2, k, k3⟩
    · exact .inl (k ▸ e)
    · rw [k] at e; obtain rfl := Option.some.inj e; exact .inr k3
  have l1 : ∀ g, blk ns' = some g → g < x.heap.size := fun g e => r1.lt e
  refine ⟨h.kp.name hs hn, (h.rm.later ux (fun g hg e => h.a1 g hg e)).later xy (fun g hg e => h.a2 g hg e), r1.later xy (fun g hg e => ?_), r2, h.nm, fun g e => ?_, fun g e => ?_, fun g e k => ?_, fun g e k => ?_, fun g e k => ?_, ?_⟩
  · rcases c1 g hg with c | c
    · exact h.a3 g c e
    · have := h.rs.lt e; omega
  · rcases c1 g e with c | c
    · exact h.nn g c
    · omega
  · rcases c2 g e with c | c
    · exact h.nsc g c
    · omega
  · rcases c1 g k with c | c
    · exact h.a1 g e c
    · have := h.rm.lt e; omega
  · rcases c2 g k with c | c
    · exact h.a2 g e c
    · have := h.rm.lt e; omega
  · rcases c2 g k with c | c
    · rcases c1 g e with d | d
      · exact h.a3 g d c
      · have := h.rs.lt c; omega
    · have := l1 g e; omega
  · exact xy.below (ux.below h.below hb (fun i e => h.nn i e)) (by omega) (fun i e => h.nsc i e)
/-- A list anew, and a sector put. -/
theorem Ks.turn {w0 u x : World} {M M' : List Ent} {N : List (List UInt8)} {S : List Int} {m ns v : Value} {gs os n c : Nat} (h : Ks w0 u M N S m ns (.slice (some ⟨gs, os, none⟩) n c)) (b : Below u.heap.size u x)
    (r : RG x 2 encN v M') (hv : ∀ g, blk v = some g → u.heap.size ≤ g) {k : Nat} (hk : k < S.length) (y : Int) (hp : Kp M' N (S.set k y)) : Ks w0 (x.setCell ⟨gs, os + k, none⟩ (.int .i64 y)) M' N (S.set k y) v ns (.slice (some ⟨gs, os, none⟩) n c) := by
  have m1 := (Mod.refl (· = gs) x).set1 (o := os + k) (.int .i64 y)
  have hs := h.rs.below b
  have hl : gs < u.heap.size := h.rs.lt rfl
  have h2 : RG (x.setCells gs (os + k * 1) (encI y)) 1 encI (.slice (some ⟨gs, os, none⟩) n c) (S.set k y) := RG.set encI_ok hs hk y
  rw [Nat.mul_one] at h2
  have hb := h.below.size
  refine ⟨hp, r.later m1 (fun g hg e => by have := hv g hg; omega), (h.rn.below b).later m1 (fun g hg e => h.a3 g hg (by rw [e]; rfl)), h2, fun g e => Nat.le_trans hb (hv g e), h.nn, h.nsc, fun g e k => ?_, fun g e k => ?_, h.a3, ?_⟩
  · have := h.rn.lt k; have := hv g e; omega
  · have := h.rs.lt k; have := hv g e; omega
  · exact m1.below (bnext h.below b) (bnext h.below b).size (fun i e => by rw [e]; exact h.nsc gs rfl)
end Go.Proofs.YtnoidhfhnaemgaaDoor
