/- Slices of claims, as they come in; which first claim is so. -/
import Derived.Test.YthpmodohfjjjcaaStrong
import Derived.Deep.Slices
import Derived.Deep.Fields
import Derived.ChangeSame
namespace Go.Proofs.Ythpmodohfjjjcaa
open Go.RowKit Go.ChangeShapes Go.WideShapes Go.ChangeAt Go.Deep

section
variable {H : Type} {enc : TypeId × Value → H} {P : Program} {w : World} {base : Nat} {spare : Nat → Bool} {held : Bool}
theorem open_fields {t e : TypeId} {fs : Array Field} {fuel : Nat} {cs : List Value} {x : DataW H × List MemPlace} (ht : P.underlying t = some (.slice e)) (he : P.underlying e = some (.struct fs))
    (hone : oneCellFields P fs = true) (hC : P.cellsOf e = fs.size) (h : DataW.trod enc P w base spare held fuel t cs = some x) :
    (cs = [.slice none 0 0]) ∨
    ∃ (a : Addr) (len cap m : Nat), cs = [.slice (some a) len cap] ∧ len ≤ cap ∧ cap ≤ maxLen ∧ m = (if spare a.block then cap else len) ∧
      ∀ i, i < m → ∃ (n : Nat), ∀ (j : Nat) (f : Field), fs[j]? = some f → ∃ (v : Value) (y : DataW H × List MemPlace), w.cell? (a.add (i * fs.size + j)) = some v ∧ DataW.trod enc P w base spare held n f.type [v] = some y := by
  rcases open_slice ht h with h0 | ⟨a, len, cap, m, n, D, Pl, hcs, hb, hl, hm, hmm, hx, hi⟩
  · exact .inl h0.1
  · refine .inr ⟨a, len, cap, m, hcs, hl, hm, hmm, fun i him => ?_⟩
    obtain ⟨cs', hc, ht'⟩ := hi i him
    rw [hC] at hc
    obtain ⟨ys, n', hn', hy, hlen, hyl, hf⟩ := DataW.trod_struct he ht'
    obtain ⟨_, hcl, hat⟩ := World.cells?_some hc
    refine ⟨n', fun j f hj => ?_⟩
    obtain ⟨ho, hk⟩ := hone_of hone j f hj
    have hjl : j < fs.size := (Array.getElem?_eq_some_iff.1 hj).1
    have hcell := hat j hjl
    have hv : cs'[j]? = some (cs'[j]'(by omega)) := List.getElem?_eq_getElem (by omega)
    have h1 := hf j f hj
    rw [ho, hk] at h1
    have hone' : (cs'.drop j).take 1 = [cs'[j]'(by omega)] := by
      rw [List.drop_eq_getElem_cons (by omega)]
      rfl
    rw [hone'] at h1
    have hys : ys[j]? = some (ys[j]'(by omega)) := List.getElem?_eq_getElem (by omega)
    refine ⟨_, _, ?_, h1.trans hys⟩
    rw [← Go.Deep.add_add, hcell, hv]
end
/-- A claim: its node, its mode. -/
abbrev Cl := Int × Int
def clV (c : Cl) : Value := .agg #[.int .i64 c.1, .int .i64 c.2]
@[go_sem] theorem clV_def (c : Cl) : clV c = .agg #[.int .i64 c.1, .int .i64 c.2] := rfl
/-- A slice of claims, as far as it may be read. -/
structure IsC (w : World) (A : Option Addr) (n : Nat) (l : List Cl) : Prop where
  length : l.length = n
  max : n ≤ maxLen
  wf : ∀ c ∈ l, (Lit.int .i64 c.1).wf = true ∧ (Lit.int .i64 c.2).wf = true
  cells : 0 < n → ∃ g off, A = some ⟨g, off, none⟩ ∧ g < w.heap.size ∧ ∀ i c, l[i]? = some c → w.cell? ⟨g, off + i * 2, none⟩ = some (.int .i64 c.1) ∧ w.cell? ⟨g, off + i * 2 + 1, none⟩ = some (.int .i64 c.2)
theorem IsC.below {w w' : World} {A : Option Addr} {n : Nat} {l : List Cl} (h : IsC w A n l) (b : Below w.heap.size w w') : IsC w' A n l :=
  ⟨h.length, h.max, h.wf, fun h0 => by
    obtain ⟨g, off, e, hg, hc⟩ := h.cells h0
    refine ⟨g, off, e, Nat.lt_of_lt_of_le hg b.size, fun i m hm => ?_⟩
    obtain ⟨c0, c1⟩ := hc i m hm
    exact ⟨(b.cell (p := ⟨g, off + i * 2, none⟩) hg).trans c0, (b.cell (p := ⟨g, off + i * 2 + 1, none⟩) hg).trans c1⟩⟩
theorem IsC.small {w : World} {A : Option Addr} {n : Nat} {l : List Cl} (h : IsC w A n l) : n ≤ 9223372036854775807 := by
  have := h.max; unfold maxLen at this; omega
theorem IsC.take {w : World} {A : Option Addr} {n : Nat} {l : List Cl} (h : IsC w A n l) {k : Nat} (hk : k ≤ n) : IsC w A k (l.take k) :=
  ⟨by rw [List.length_take, h.length]; omega, Nat.le_trans hk h.max, fun c hc => h.wf c (List.mem_of_mem_take hc), fun h0 => by
    obtain ⟨g, off, e, hg, hc⟩ := h.cells (by omega)
    refine ⟨g, off, e, hg, fun i c hi => hc i c ?_⟩
    rw [List.getElem?_take] at hi
    split at hi
    · exact hi
    · cases hi⟩
set_option maxRecDepth 100000 in
theorem opens_claims {H : Type} {enc : TypeId × Value → H} {W : World} {v : Value} {d : DataW H} {p : List MemPlace} {base : Nat}
    (hv : Value.okWide Try.prog W .any base 55 v) (h : DataW.Trod enc Try.prog W 0 (fun _ => true) true 55 v d p) :
    ∃ a len cap l, v = .slice a len cap ∧ IsC W a len l ∧ len ≤ cap ∧ (a = none → len = 0) := by
  obtain ⟨a, len, cap, rfl⟩ := okWide_slice Try.underlying55 hv
  obtain ⟨fuel, hf⟩ := h
  rcases open_fields Try.underlying55 Try.underlying61 (by kernel_rfl) (by kernel_rfl) hf with hcs | ⟨x, l, c, m, hcs, hl, hm, hmm, hel⟩
  · simp [Value.cells] at hcs
    obtain ⟨rfl, rfl, rfl⟩ := hcs
    exact ⟨none, 0, 0, [], rfl, ⟨rfl, Nat.zero_le _, by simp, fun h => by omega⟩, Nat.le_refl _, fun _ => rfl⟩
  · simp [Value.cells] at hcs
    obtain ⟨rfl, rfl, rfl⟩ := hcs
    have hmm' : m = cap := by simpa using hmm
    by_cases h0 : 0 < len
    · have hspot : x.spot = none := by
        obtain ⟨n0, h1⟩ := hel 0 (by omega)
        obtain ⟨v0, y0, hc0, _⟩ := h1 0 _ rfl
        have := World.cell?_spot hc0
        simpa [Addr.add] using this
      obtain ⟨b, off, spot⟩ := x
      simp only at hspot
      subst hspot
      have key : ∀ i, i < len → ∃ c : Cl, W.cell? ⟨b, off + i * 2, none⟩ = some (.int .i64 c.1) ∧ W.cell? ⟨b, off + i * 2 + 1, none⟩ = some (.int .i64 c.2) ∧ (Lit.int .i64 c.1).wf = true ∧ (Lit.int .i64 c.2).wf = true := fun i hi => by
        obtain ⟨n0, h1⟩ := hel i (by omega)
        have ad : ∀ j, (⟨b, off, none⟩ : Addr).add (i * 2 + j) = ⟨b, off + i * 2 + j, none⟩ := fun j => by rw [Go.WideShapes.add_plain, Nat.add_assoc]
        obtain ⟨v0, y0, c0, t0⟩ := h1 0 _ rfl
        obtain ⟨v1, y1, c1, t1⟩ := h1 1 _ rfl
        obtain ⟨n0, e0, _, w0⟩ := DataW.trod_int Try.underlying3 t0
        obtain ⟨n1, e1, _, w1⟩ := DataW.trod_int Try.underlying3 t1
        simp only [List.cons.injEq, and_true] at e0 e1
        subst e0 e1
        change W.cell? ((⟨b, off, none⟩ : Addr).add (i * 2 + 0)) = _ at c0
        change W.cell? ((⟨b, off, none⟩ : Addr).add (i * 2 + 1)) = _ at c1
        rw [ad] at c0 c1
        exact ⟨(n0, n1), c0, c1, w0, w1⟩
      have hlt : b < W.heap.size := by
        obtain ⟨c, h1, _⟩ := key 0 h0
        exact lt_of_cell h1
      refine ⟨some ⟨b, off, none⟩, len, cap, (List.range len).map fun i => if hi : i < len then (key i hi).choose else (0, 0), rfl, ⟨by simp, Nat.le_trans hl hm, fun c hc => ?_, fun _ => ⟨b, off, rfl, hlt, fun i c hi => ?_⟩⟩, hl, fun e => by cases e⟩
      · obtain ⟨i, hi, rfl⟩ := List.mem_map.1 hc
        rw [dif_pos (List.mem_range.1 hi)]
        exact (key i (List.mem_range.1 hi)).choose_spec.2.2
      · obtain ⟨h1, h2⟩ := List.getElem?_eq_some_iff.1 hi
        simp at h1 h2
        rw [dif_pos h1] at h2
        subst h2
        have := (key i h1).choose_spec
        exact ⟨this.1, this.2.1⟩
    · obtain rfl : len = 0 := by omega
      exact ⟨some x, 0, cap, [], rfl, ⟨rfl, Nat.zero_le _, by simp, fun h => by omega⟩, hl, fun e => by cases e⟩
set_option maxRecDepth 100000 in
theorem open_claim {H : Type} {enc : TypeId × Value → H} {W : World} {v : Value} {d : DataW H} {p : List MemPlace} {base : Nat}
    (hv : Value.okWide Try.prog W .any base 61 v) (h : DataW.Trod enc Try.prog W 0 (fun _ => true) true 61 v d p) :
    ∃ c : Cl, v = clV c ∧ (Lit.int .i64 c.1).wf = true ∧ (Lit.int .i64 c.2).wf = true := by
  obtain ⟨cs, rfl, hsz⟩ := okWide_struct Try.underlying61 hv
  obtain ⟨fuel, hf⟩ := h
  obtain ⟨xs, n, _, _, hl, hlen, hf⟩ := DataW.trod_struct Try.underlying61 hf
  have k3 : Try.prog.cellsOf 3 = 1 := by kernel_rfl
  have hC : Try.prog.cellsOf 61 = 2 := by kernel_rfl
  rw [hC] at hsz
  obtain ⟨l⟩ := cs
  have hx : ∀ i, i < 2 → ∃ y, xs[i]? = some y := fun i hi => ⟨_, List.getElem?_eq_getElem (by rw [hlen]; exact hi)⟩
  match l, hsz with
  | [a0, a1], _ =>
    have h0 : DataW.trod enc Try.prog W 0 (fun _ => true) true n 3 (List.take (Try.prog.cellsOf 3) [a0, a1]) = xs[0]? := hf 0 _ rfl
    have h1 : DataW.trod enc Try.prog W 0 (fun _ => true) true n 3 (List.take (Try.prog.cellsOf 3) [a1]) = xs[1]? := hf 1 _ rfl
    rw [k3] at h0 h1
    obtain ⟨y0, e0⟩ := hx 0 (by decide)
    obtain ⟨y1, e1⟩ := hx 1 (by decide)
    rw [e0] at h0
    rw [e1] at h1
    obtain ⟨n0, q0, _, w0⟩ := DataW.trod_int Try.underlying3 h0
    obtain ⟨n1, q1, _, w1⟩ := DataW.trod_int Try.underlying3 h1
    simp only [List.take, List.cons.injEq, and_true] at q0 q1
    subst q0 q1
    exact ⟨(n0, n1), rfl, w0, w1⟩
end Go.Proofs.Ythpmodohfjjjcaa
