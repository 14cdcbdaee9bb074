/- Changes by plain numbers that came in; a row that is made of them. -/
import Derived.Test.YtgncmgchoogmpaaDoorRo11
import Derived.Test.YtgncmgchoogmpaaDoorArr
import Derived.Deep.Fields
import Derived.Deep.Slices
import Derived.ChangeSame
namespace Go.Proofs.YtgncmgchoogmpaaDoor
open Go.RowKit Go.ChangeShapes Go.WideShapes Go.ChangeAt Go.Deep

section
variable {H : Type} {enc : TypeId × Value → H} {P : Program} {w : World} {base : Nat} {spare : Nat → Bool} {held : Bool}
theorem open_fields {t e : TypeId} {fs : Array Field} {fuel : Nat} {cs : List Value} {x : DataW H × List MemPlace} (ht : P.underlying t = some (.slice e)) (he : P.underlying e = some (.struct fs))
    (hone : oneCellFields P fs = true) (hC : P.cellsOf e = fs.size) (h : DataW.trod enc P w base spare held fuel t cs = some x) :
    (cs = [.slice none 0 0]) ∨
    ∃ (a : Addr) (len cap m : Nat), cs = [.slice (some a) len cap] ∧ len ≤ cap ∧ cap ≤ maxLen ∧ m = (if spare a.block then cap else len) ∧
      ∀ i, i < m → ∃ (n : Nat), ∀ (j : Nat) (f : Field), fs[j]? = some f → ∃ (v : Value) (y : DataW H × List MemPlace), w.cell? (a.add (i * fs.size + j)) = some v ∧ DataW.trod enc P w base spare held n f.type [v] = some y := by
  rcases open_slice ht h with h0 | ⟨a, len, cap, m, n, D, Pl, hcs, hb, hl, hm, hmm, hx, hi⟩
  · exact .inl h0.1
  · refine .inr ⟨a, len, cap, m, hcs, hl, hm, hmm, fun i him => ?_⟩
    obtain ⟨cs', hc, ht'⟩ := hi i him
    rw [hC] at hc
    obtain ⟨ys, n', hn', hy, hlen, hyl, hf⟩ := DataW.trod_struct he ht'
    obtain ⟨_, hcl, hat⟩ := World.cells?_some hc
    refine ⟨n', fun j f hj => ?_⟩
    obtain ⟨ho, hk⟩ := hone_of hone j f hj
    have hjl : j < fs.size := (Array.getElem?_eq_some_iff.1 hj).1
    have hcell := hat j hjl
    have hv : cs'[j]? = some (cs'[j]'(by omega)) := List.getElem?_eq_getElem (by omega)
    have h1 := hf j f hj
    rw [ho, hk] at h1
    have hone' : (cs'.drop j).take 1 = [cs'[j]'(by omega)] := by
      rw [List.drop_eq_getElem_cons (by omega)]
      rfl
    rw [hone'] at h1
    have hys : ys[j]? = some (ys[j]'(by omega)) := List.getElem?_eq_getElem (by omega)
    refine ⟨_, _, ?_, h1.trans hys⟩
    rw [← Go.Deep.add_add, hcell, hv]
end
/-- A change by plain numbers. -/
abbrev Sp := Int × Int × Bool
def encP (s : Sp) : List Value := [.int .i64 s.1, .int .u8 s.2.1, .bool s.2.2]
theorem encP_ok : Enc 3 encP := ⟨fun _ => rfl, by intro a u hu; simp [encP] at hu; rcases hu with rfl | rfl | rfl <;> rfl, by decide⟩
def wfP (s : Sp) : Prop := (Lit.int .i64 s.1).wf = true ∧ (Lit.int .u8 s.2.1).wf = true
theorem ofVs {w : World} {A : Option Addr} {n : Nat} {vs : Nat → Sp} (hm : n ≤ maxLen) (h : 0 < n → ∃ g off, A = some ⟨g, off, none⟩ ∧ ∀ i, i < n → (w.cell? ⟨g, off + i * 3, none⟩ = some (.int .i64 (vs i).1) ∧ w.cell? ⟨g, off + i * 3 + 1, none⟩ = some (.int .u8 (vs i).2.1) ∧ w.cell? ⟨g, off + i * 3 + 2, none⟩ = some (.bool (vs i).2.2)) ∧ wfP (vs i)) :
    ∃ l : List Sp, IsG w 3 encP A n l ∧ ∀ s ∈ l, wfP s := by
  refine ⟨(List.range n).map vs, ⟨by simp, hm, fun h0 => ?_⟩, fun s hs => ?_⟩
  · obtain ⟨g, off, e, hc⟩ := h h0
    refine ⟨g, off, e, lt_of_cell (hc 0 h0).1.1, fun i a j u hi hj => ?_⟩
    have hin : i < n := by have := (List.getElem?_eq_some_iff.1 hi).1; simpa using this
    obtain ⟨⟨c0, c1, c2⟩, _⟩ := hc i hin
    have ha : vs i = a := by simpa [hin] using hi
    subst ha
    match j, hj with
    | 0, hj => simp [encP] at hj; subst hj; exact c0
    | 1, hj => simp [encP] at hj; subst hj; exact c1
    | 2, hj => simp [encP] at hj; subst hj; exact c2
    | j + 3, hj => simp [encP] at hj
  · simp only [List.mem_map, List.mem_range] at hs
    obtain ⟨i, hi, rfl⟩ := hs
    obtain ⟨g, off, e, hc⟩ := h (by omega)
    exact (hc i hi).2
set_option maxRecDepth 100000 in
theorem opens_specs {H : Type} {enc : TypeId × Value → H} {W : World} {v : Value} {d : DataW H} {p : List MemPlace} {base : Nat}
    (hv : Value.okWide Tryd.prog W .any base 28 v) (h : DataW.Trod enc Tryd.prog W 0 (fun _ => true) true 28 v d p) :
    ∃ a len cap l, v = .slice a len cap ∧ IsG W 3 encP a len l ∧ ∀ s ∈ l, wfP s := by
  obtain ⟨a, len, cap, rfl⟩ := okWide_slice Tryd.underlying28 hv
  obtain ⟨fuel, hf⟩ := h
  rcases open_fields Tryd.underlying28 Tryd.underlying39 (by kernel_rfl) (by kernel_rfl) hf with hcs | ⟨x, l, c, m, hcs, hl, hm, hmm, hel⟩
  · simp [Value.cells] at hcs
    obtain ⟨rfl, rfl, rfl⟩ := hcs
    obtain ⟨l, hl⟩ := ofVs (w := W) (A := none) (n := 0) (vs := fun _ => (0, 0, false)) (Nat.zero_le _) (fun h => by omega)
    exact ⟨none, 0, 0, l, rfl, hl⟩
  · simp [Value.cells] at hcs
    obtain ⟨rfl, rfl, rfl⟩ := hcs
    have hmm' : m = cap := by simpa using hmm
    by_cases h0 : 0 < len
    · have hspot : x.spot = none := by
        obtain ⟨n0, h1⟩ := hel 0 (by omega)
        obtain ⟨v0, y0, hc0, _⟩ := h1 0 _ rfl
        have := World.cell?_spot hc0
        simpa [Addr.add] using this
      obtain ⟨b, off, spot⟩ := x
      simp only at hspot
      subst hspot
      have key : ∀ i, i < len → ∃ s : Sp, (W.cell? ⟨b, off + i * 3, none⟩ = some (.int .i64 s.1) ∧ W.cell? ⟨b, off + i * 3 + 1, none⟩ = some (.int .u8 s.2.1) ∧ W.cell? ⟨b, off + i * 3 + 2, none⟩ = some (.bool s.2.2)) ∧ wfP s := fun i hi => by
        obtain ⟨n0, h1⟩ := hel i (by omega)
        have ad : ∀ j, (⟨b, off, none⟩ : Addr).add (i * 3 + j) = ⟨b, off + i * 3 + j, none⟩ := fun j => by rw [Go.WideShapes.add_plain, Nat.add_assoc]
        obtain ⟨v0, y0, c0, t0⟩ := h1 0 _ rfl
        obtain ⟨v1, y1, c1, t1⟩ := h1 1 _ rfl
        obtain ⟨v2, y2, c2, t2⟩ := h1 2 _ rfl
        obtain ⟨n0, e0, _, w0⟩ := DataW.trod_int Tryd.underlying3 t0
        obtain ⟨n1, e1, _, w1⟩ := DataW.trod_int Tryd.underlying5 t1
        obtain ⟨n2, e2, _⟩ := DataW.trod_bool Tryd.underlying4 t2
        simp only [List.cons.injEq, and_true] at e0 e1 e2
        subst e0 e1 e2
        change W.cell? ((⟨b, off, none⟩ : Addr).add (i * 3 + 0)) = _ at c0
        change W.cell? ((⟨b, off, none⟩ : Addr).add (i * 3 + 1)) = _ at c1
        change W.cell? ((⟨b, off, none⟩ : Addr).add (i * 3 + 2)) = _ at c2
        rw [ad] at c0 c1 c2
        exact ⟨(n0, n1, n2), ⟨c0, c1, c2⟩, w0, w1⟩
      obtain ⟨l, hl'⟩ := ofVs (w := W) (A := some ⟨b, off, none⟩) (n := len) (vs := fun i => if hi : i < len then (key i hi).choose else (0, 0, false)) (Nat.le_trans hl hm) (fun _ => ⟨b, off, rfl, fun i hi => by
        simp only [dif_pos hi]
        exact (key i hi).choose_spec⟩)
      exact ⟨some ⟨b, off, none⟩, len, cap, l, rfl, hl'⟩
    · obtain ⟨l, hl'⟩ := ofVs (w := W) (A := some x) (n := len) (vs := fun _ => (0, 0, false)) (Nat.le_trans hl hm) (fun h => absurd h h0)
      exact ⟨some x, len, cap, l, rfl, hl'⟩
set_option maxRecDepth 100000 in
theorem open_spec {H : Type} {enc : TypeId × Value → H} {W : World} {v : Value} {d : DataW H} {p : List MemPlace} {base : Nat}
    (hv : Value.okWide Tryd.prog W .any base 39 v) (h : DataW.Trod enc Tryd.prog W 0 (fun _ => true) true 39 v d p) :
    ∃ s : Sp, v = .agg #[.int .i64 s.1, .int .u8 s.2.1, .bool s.2.2] ∧ wfP s := by
  obtain ⟨cs, rfl, hsz⟩ := okWide_struct Tryd.underlying39 hv
  obtain ⟨fuel, hf⟩ := h
  obtain ⟨xs, n, _, _, hl, hlen, hf⟩ := DataW.trod_struct Tryd.underlying39 hf
  have k3 : Tryd.prog.cellsOf 3 = 1 := by kernel_rfl
  have k5 : Tryd.prog.cellsOf 5 = 1 := by kernel_rfl
  have k4 : Tryd.prog.cellsOf 4 = 1 := by kernel_rfl
  have hC : Tryd.prog.cellsOf 39 = 3 := by kernel_rfl
  rw [hC] at hsz
  obtain ⟨l⟩ := cs
  have hx : ∀ i, i < 3 → ∃ y, xs[i]? = some y := fun i hi => ⟨_, List.getElem?_eq_getElem (by rw [hlen]; exact hi)⟩
  match l, hsz with
  | [a0, a1, a2], _ =>
    have h0 : DataW.trod enc Tryd.prog W 0 (fun _ => true) true n 3 (List.take (Tryd.prog.cellsOf 3) [a0, a1, a2]) = xs[0]? := hf 0 _ rfl
    have h1 : DataW.trod enc Tryd.prog W 0 (fun _ => true) true n 5 (List.take (Tryd.prog.cellsOf 5) [a1, a2]) = xs[1]? := hf 1 _ rfl
    have h2 : DataW.trod enc Tryd.prog W 0 (fun _ => true) true n 4 (List.take (Tryd.prog.cellsOf 4) [a2]) = xs[2]? := hf 2 _ rfl
    rw [k3] at h0
    rw [k5] at h1
    rw [k4] at h2
    obtain ⟨y0, e0⟩ := hx 0 (by decide)
    obtain ⟨y1, e1⟩ := hx 1 (by decide)
    obtain ⟨y2, e2⟩ := hx 2 (by decide)
    rw [e0] at h0
    rw [e1] at h1
    rw [e2] at h2
    obtain ⟨n0, q0, _, w0⟩ := DataW.trod_int Tryd.underlying3 h0
    obtain ⟨n1, q1, _, w1⟩ := DataW.trod_int Tryd.underlying5 h1
    obtain ⟨n2, q2, _⟩ := DataW.trod_bool Tryd.underlying4 h2
    simp only [List.take, List.cons.injEq, and_true] at q0 q1 q2
    subst q0 q1 q2
    exact ⟨(n0, n1, n2), rfl, w0, w1⟩
/-- Three integers by value. -/
theorem opens_int3 {H : Type} {enc : TypeId × Value → H} {P : Program} {W : World} {t e : TypeId} {k : IntKind} {v : Value} {d : DataW H} {p : List MemPlace} {base : Nat}
    (ht : P.underlying t = some (.array 3 e)) (hC : P.cellsOf t = 3) (hc : P.cellsOf e = 1) (he : P.underlying e = some (.int k)) (hv : Value.okWide P W .any base t v) (h : DataW.Trod enc P W 0 (fun _ => true) true t v d p) :
    ∃ x y z, v = .agg #[.int k x, .int k y, .int k z] ∧ (Lit.int k x).wf = true ∧ (Lit.int k y).wf = true ∧ (Lit.int k z).wf = true := by
  obtain ⟨cs, rfl, hl, hi⟩ := opens_arr ht hC hc hv h
  match cs, hl, hi with
  | [a, b, c], _, hi =>
    obtain ⟨m, z, h0⟩ := hi 0 (by simp)
    obtain ⟨m', z', h1⟩ := hi 1 (by simp)
    obtain ⟨m'', z'', h2⟩ := hi 2 (by simp)
    obtain ⟨x, e0, _, w0⟩ := DataW.trod_int he h0
    obtain ⟨y, e1, _, w1⟩ := DataW.trod_int he h1
    obtain ⟨u, e2, _, w2⟩ := DataW.trod_int he h2
    simp only [List.getElem_cons_zero, List.getElem_cons_succ, List.cons.injEq, and_true] at e0 e1 e2
    subst e0 e1 e2
    exact ⟨x, y, u, rfl, w0, w1, w2⟩
theorem and_mask (x : Int) (m : Nat) (hm : m ≤ 9223372036854775807) : ∃ k : Nat, Hid (bits .and .i64 x (m : Int) = (k : Int)) ∧ k ≤ m := by
  have h2 : (BitVec.ofInt 64 x &&& BitVec.ofInt 64 (m : Int)).toNat ≤ m := by
    rw [BitVec.toNat_and]
    have e : (BitVec.ofInt 64 (m : Int)).toNat = m := by simp; omega
    rw [e]
    exact Nat.and_le_right
  refine ⟨(BitVec.ofInt 64 x &&& BitVec.ofInt 64 (m : Int)).toNat, Lib.hid ?_, h2⟩
  show IntKind.i64.wrap ((BitVec.ofInt 64 x &&& BitVec.ofInt 64 (m : Int)).toNat : Int) = _
  rw [IntWalk.i64_in _ (by omega)]
end Go.Proofs.YtgncmgchoogmpaaDoor
