/- A slice of calls that came in: what each of them says. -/
import Derived.Test.YtakhhpakajafkaaClose
import Derived.Test.YtakhhpakajafkaaChecked
import Derived.Deep.Slices
import Derived.Deep.Fields
import Derived.ChangeSame
namespace Go.Proofs.Ytakhhpakajafkaa
open Go.RowKit Go.ChangeShapes Go.WideShapes Go.ChangeAt Go.Deep

section
variable {H : Type} {enc : TypeId × Value → H} {P : Program} {w : World} {base : Nat} {spare : Nat → Bool} {held : Bool}
theorem open_fields {t e : TypeId} {fs : Array Field} {fuel : Nat} {cs : List Value} {x : DataW H × List MemPlace} (ht : P.underlying t = some (.slice e)) (he : P.underlying e = some (.struct fs))
    (hone : oneCellFields P fs = true) (hC : P.cellsOf e = fs.size) (h : DataW.trod enc P w base spare held fuel t cs = some x) :
    (cs = [.slice none 0 0]) ∨
    ∃ (a : Addr) (len cap m : Nat), cs = [.slice (some a) len cap] ∧ len ≤ cap ∧ cap ≤ maxLen ∧ m = (if spare a.block then cap else len) ∧
      ∀ i, i < m → ∃ (n : Nat), ∀ (j : Nat) (f : Field), fs[j]? = some f → ∃ (v : Value) (y : DataW H × List MemPlace), w.cell? (a.add (i * fs.size + j)) = some v ∧ DataW.trod enc P w base spare held n f.type [v] = some y := by
  rcases open_slice ht h with h0 | ⟨a, len, cap, m, n, D, Pl, hcs, hb, hl, hm, hmm, hx, hi⟩
  · exact .inl h0.1
  · refine .inr ⟨a, len, cap, m, hcs, hl, hm, hmm, fun i him => ?_⟩
    obtain ⟨cs', hc, ht'⟩ := hi i him
    rw [hC] at hc
    obtain ⟨ys, n', hn', hy, hlen, hyl, hf⟩ := DataW.trod_struct he ht'
    obtain ⟨_, hcl, hat⟩ := World.cells?_some hc
    refine ⟨n', fun j f hj => ?_⟩
    obtain ⟨ho, hk⟩ := hone_of hone j f hj
    have hjl : j < fs.size := (Array.getElem?_eq_some_iff.1 hj).1
    have hcell := hat j hjl
    have hv : cs'[j]? = some (cs'[j]'(by omega)) := List.getElem?_eq_getElem (by omega)
    have h1 := hf j f hj
    rw [ho, hk] at h1
    have hone' : (cs'.drop j).take 1 = [cs'[j]'(by omega)] := by
      rw [List.drop_eq_getElem_cons (by omega)]
      rfl
    rw [hone'] at h1
    have hys : ys[j]? = some (ys[j]'(by omega)) := List.getElem?_eq_getElem (by omega)
    refine ⟨_, _, ?_, h1.trans hys⟩
    rw [← Go.Deep.add_add, hcell, hv]
end
/-- A call. -/
structure OpV where
  kind : Int
  frm : Int
  to : Int
  which : Int
  body : List UInt8
/-- A call lies so in five cells. -/
structure OpAt (w : World) (b o : Nat) (v : OpV) : Prop where
  kind : w.cell? ⟨b, o, none⟩ = some (.int .i64 v.kind)
  frm : w.cell? ⟨b, o + 1, none⟩ = some (.int .i64 v.frm)
  to : w.cell? ⟨b, o + 2, none⟩ = some (.int .i64 v.to)
  which : w.cell? ⟨b, o + 3, none⟩ = some (.int .i64 v.which)
  body : w.cell? ⟨b, o + 4, none⟩ = some (.string (str v.body))
  wkind : (Lit.int .i64 v.kind).wf = true
  wfrm : (Lit.int .i64 v.frm).wf = true
  wto : (Lit.int .i64 v.to).wf = true
  wwhich : (Lit.int .i64 v.which).wf = true
  wbody : v.body.length ≤ maxLen
/-- A slice of calls that came in. -/
structure IsOps (w : World) (a : Option Addr) (len : Nat) (vs : Nat → OpV) : Prop where
  max : len ≤ maxLen
  cells : 0 < len → ∃ b off, a = some ⟨b, off, none⟩ ∧ ∀ i, i < len → OpAt w b (off + i * 5) (vs i)
set_option maxRecDepth 100000 in
theorem opens_ops {H : Type} {enc : TypeId × Value → H} {W : World} {v : Value} {d : DataW H} {p : List MemPlace} {base : Nat}
    (hv : Value.okWide Try.prog W .any base 22 v) (h : DataW.Trod enc Try.prog W 0 (fun _ => true) true 22 v d p) :
    ∃ a len cap vs, v = .slice a len cap ∧ IsOps W a len vs ∧ len ≤ cap := by
  obtain ⟨a, len, cap, rfl⟩ := okWide_slice Try.underlying22 hv
  obtain ⟨fuel, hf⟩ := h
  rcases open_fields Try.underlying22 Try.underlying31 (by kernel_rfl) (by kernel_rfl) hf with hcs | ⟨x, l, c, m, hcs, hl, hm, hmm, hel⟩
  · simp [Value.cells] at hcs
    obtain ⟨rfl, rfl, rfl⟩ := hcs
    exact ⟨none, 0, 0, fun _ => ⟨0, 0, 0, 0, []⟩, rfl, ⟨Nat.zero_le _, fun h => by omega⟩, Nat.le_refl _⟩
  · simp [Value.cells] at hcs
    obtain ⟨rfl, rfl, rfl⟩ := hcs
    have hmm' : m = cap := by simpa using hmm
    by_cases h0 : 0 < len
    · have hspot : x.spot = none := by
        obtain ⟨n0, h1⟩ := hel 0 (by omega)
        obtain ⟨v0, y0, hc0, _⟩ := h1 0 _ rfl
        have := World.cell?_spot hc0
        simpa [Addr.add] using this
      obtain ⟨b, off, spot⟩ := x
      simp only at hspot
      subst hspot
      have key : ∀ i, i < len → ∃ v : OpV, OpAt W b (off + i * 5) v := fun i hi => by
        obtain ⟨n0, h1⟩ := hel i (by omega)
        have ad : ∀ j, (⟨b, off, none⟩ : Addr).add (i * 5 + j) = ⟨b, off + i * 5 + j, none⟩ := fun j => by rw [Go.WideShapes.add_plain, Nat.add_assoc]
        obtain ⟨v0, y0, c0, t0⟩ := h1 0 _ rfl
        obtain ⟨v1, y1, c1, t1⟩ := h1 1 _ rfl
        obtain ⟨v2, y2, c2, t2⟩ := h1 2 _ rfl
        obtain ⟨v3, y3, c3, t3⟩ := h1 3 _ rfl
        obtain ⟨v4, y4, c4, t4⟩ := h1 4 _ rfl
        obtain ⟨n0, e0, _, w0⟩ := DataW.trod_int Try.underlying3 t0
        obtain ⟨n1, e1, _, w1⟩ := DataW.trod_int Try.underlying3 t1
        obtain ⟨n2, e2, _, w2⟩ := DataW.trod_int Try.underlying3 t2
        obtain ⟨n3, e3, _, w3⟩ := DataW.trod_int Try.underlying3 t3
        obtain ⟨n4, e4, _, w4⟩ := DataW.trod_string Try.underlying9 t4
        simp only [List.cons.injEq, and_true] at e0 e1 e2 e3 e4
        subst e0 e1 e2 e3 e4
        obtain ⟨l4, rfl⟩ := str_of n4
        change W.cell? ((⟨b, off, none⟩ : Addr).add (i * 5 + 0)) = _ at c0
        change W.cell? ((⟨b, off, none⟩ : Addr).add (i * 5 + 1)) = _ at c1
        change W.cell? ((⟨b, off, none⟩ : Addr).add (i * 5 + 2)) = _ at c2
        change W.cell? ((⟨b, off, none⟩ : Addr).add (i * 5 + 3)) = _ at c3
        change W.cell? ((⟨b, off, none⟩ : Addr).add (i * 5 + 4)) = _ at c4
        rw [ad] at c0 c1 c2 c3 c4
        exact ⟨⟨n0, n1, n2, n3, l4⟩, c0, c1, c2, c3, c4, w0, w1, w2, w3, by simpa [str_size] using w4⟩
      refine ⟨some ⟨b, off, none⟩, len, cap, fun i => if hi : i < len then (key i hi).choose else ⟨0, 0, 0, 0, []⟩, rfl, ⟨Nat.le_trans hl hm, fun _ => ⟨b, off, rfl, fun i hi => ?_⟩⟩, hl⟩
      rw [dif_pos hi]
      exact (key i hi).choose_spec
    · exact ⟨some x, len, cap, fun _ => ⟨0, 0, 0, 0, []⟩, rfl, ⟨Nat.le_trans hl hm, fun h => absurd h h0⟩, hl⟩
theorem OpAt.below {w w' : World} {b o : Nat} {v : OpV} (h : OpAt w b o v) {n : Nat} (hb : b < n) (m : Below n w w') : OpAt w' b o v := by
  exact ⟨(m.cell (p := ⟨b, o, none⟩) hb).trans h.kind, (m.cell (p := ⟨b, o + 1, none⟩) hb).trans h.frm, (m.cell (p := ⟨b, o + 2, none⟩) hb).trans h.to, (m.cell (p := ⟨b, o + 3, none⟩) hb).trans h.which, (m.cell (p := ⟨b, o + 4, none⟩) hb).trans h.body, h.wkind, h.wfrm, h.wto, h.wwhich, h.wbody⟩
/-- A slice of calls that came in stays what it is. -/
theorem IsOps.at {W w : World} {a : Option Addr} {len : Nat} {vs : Nat → OpV} (h : IsOps W a len vs) (m : Below W.heap.size W w) {i : Nat} (hi : i < len) : ∃ b off, a = some ⟨b, off, none⟩ ∧ OpAt w b (off + i * 5) (vs i) := by
  obtain ⟨b, off, rfl, hc⟩ := h.cells (by omega)
  exact ⟨b, off, rfl, (hc i hi).below (lt_of_cell (hc i hi).kind) m⟩
/-- A text's first bytes. -/
theorem short_any (l : List UInt8) (hl : l.length ≤ maxLen) (n : Nat) (w : World) :
    Calls Try.prog 21 #[.string (str l), .int .i64 (n : Int)] w fun e w' => e = .returned (.string (str (l.take n))) ∧ w = w' := by
  have hm : l.length ≤ 9223372036854775807 := by unfold maxLen at hl; omega
  by_cases h : n < l.length
  · have h1 : decide ((n : Int) < (l.length : Int)) = true := by simpa using h
    go_enter Try.func21, Try.ntmps21
    go_wp2
    go_ret
    exact ⟨ret_str (by simp), rfl⟩
  · have h1 : decide ((n : Int) < (l.length : Int)) = false := by simpa using h
    go_enter Try.func21, Try.ntmps21
    go_wp2
    go_ret
    exact ⟨ret_str (by rw [List.take_of_length_le (by omega)]), rfl⟩
theorem and_small (x : Int) (m : Nat) (hm : m = 3 ∨ m = 7) : ∃ k : Nat, Hid (bits .and .i64 x (m : Int) = (k : Int)) ∧ k ≤ m := by
  have h2 : (BitVec.ofInt 64 x &&& BitVec.ofInt 64 (m : Int)).toNat ≤ m := by
    rw [BitVec.toNat_and]
    have e : (BitVec.ofInt 64 (m : Int)).toNat = m := by rcases hm with rfl | rfl <;> decide
    rw [e]
    exact Nat.and_le_right
  refine ⟨(BitVec.ofInt 64 x &&& BitVec.ofInt 64 (m : Int)).toNat, Lib.hid ?_, h2⟩
  show IntKind.i64.wrap ((BitVec.ofInt 64 x &&& BitVec.ofInt 64 (m : Int)).toNat : Int) = _
  rw [IntWalk.i64_in _ (by omega)]
end Go.Proofs.Ytakhhpakajafkaa
