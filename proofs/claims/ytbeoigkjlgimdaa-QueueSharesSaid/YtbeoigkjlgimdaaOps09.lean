/- A slice of changes that came in: what each of them says; the rest by a number. -/
import Derived.Test.YtbeoigkjlgimdaaAw9
namespace Go.Proofs.Ytbeoigkjlgimdaa
open Go.RowKit Go.ChangeShapes Go.WideShapes Go.ChangeAt Go.Deep

/-- A call. -/
structure OpV where
  kind : Int
  node : Int
  mode : Int
/-- A change lies so in three cells. -/
structure OpAt (w : World) (b o : Nat) (v : OpV) : Prop where
  kind : w.cell? ⟨b, o, none⟩ = some (.int .i64 v.kind)
  node : w.cell? ⟨b, o + 1, none⟩ = some (.int .i64 v.node)
  mode : w.cell? ⟨b, o + 2, none⟩ = some (.int .i64 v.mode)
  wkind : (Lit.int .i64 v.kind).wf = true
  wnode : (Lit.int .i64 v.node).wf = true
/-- A slice of calls that came in. -/
structure IsOps (w : World) (a : Option Addr) (len : Nat) (vs : Nat → OpV) : Prop where
  max : len ≤ maxLen
  cells : 0 < len → ∃ b off, a = some ⟨b, off, none⟩ ∧ ∀ i, i < len → OpAt w b (off + i * 3) (vs i)
set_option maxRecDepth 100000 in
theorem opens_ops {H : Type} {enc : TypeId × Value → H} {W : World} {v : Value} {d : DataW H} {p : List MemPlace} {base : Nat}
    (hv : Value.okWide Try.prog W .any base 22 v) (h : DataW.Trod enc Try.prog W 0 (fun _ => true) true 22 v d p) :
    ∃ a len cap vs, v = .slice a len cap ∧ IsOps W a len vs ∧ len ≤ cap := by
  obtain ⟨a, len, cap, rfl⟩ := okWide_slice Try.underlying22 hv
  obtain ⟨fuel, hf⟩ := h
  rcases open_fields Try.underlying22 Try.underlying28 (by kernel_rfl) (by kernel_rfl) hf with hcs | ⟨x, l, c, m, hcs, hl, hm, hmm, hel⟩
  · simp [Value.cells] at hcs
    obtain ⟨rfl, rfl, rfl⟩ := hcs
    exact ⟨none, 0, 0, fun _ => ⟨0, 0, 0⟩, rfl, ⟨Nat.zero_le _, fun h => by omega⟩, Nat.le_refl _⟩
  · simp [Value.cells] at hcs
    obtain ⟨rfl, rfl, rfl⟩ := hcs
    have hmm' : m = cap := by simpa using hmm
    by_cases h0 : 0 < len
    · have hspot : x.spot = none := by
        obtain ⟨n0, h1⟩ := hel 0 (by omega)
        obtain ⟨v0, y0, hc0, _⟩ := h1 0 _ rfl
        have := World.cell?_spot hc0
        simpa [Addr.add] using this
      obtain ⟨b, off, spot⟩ := x
      simp only at hspot
      subst hspot
      have key : ∀ i, i < len → ∃ v : OpV, OpAt W b (off + i * 3) v := fun i hi => by
        obtain ⟨n0, h1⟩ := hel i (by omega)
        have ad : ∀ j, (⟨b, off, none⟩ : Addr).add (i * 3 + j) = ⟨b, off + i * 3 + j, none⟩ := fun j => by rw [Go.WideShapes.add_plain, Nat.add_assoc]
        obtain ⟨v0, y0, c0, t0⟩ := h1 0 _ rfl
        obtain ⟨v1, y1, c1, t1⟩ := h1 1 _ rfl
        obtain ⟨v2, y2, c2, t2⟩ := h1 2 _ rfl
        obtain ⟨n0, e0, _, w0⟩ := DataW.trod_int Try.underlying3 t0
        obtain ⟨n1, e1, _, w1⟩ := DataW.trod_int Try.underlying3 t1
        obtain ⟨n2, e2, _, _⟩ := DataW.trod_int Try.underlying3 t2
        simp only [List.cons.injEq, and_true] at e0 e1 e2
        subst e0 e1 e2
        change W.cell? ((⟨b, off, none⟩ : Addr).add (i * 3 + 0)) = _ at c0
        change W.cell? ((⟨b, off, none⟩ : Addr).add (i * 3 + 1)) = _ at c1
        change W.cell? ((⟨b, off, none⟩ : Addr).add (i * 3 + 2)) = _ at c2
        rw [ad] at c0 c1 c2
        exact ⟨⟨n0, n1, n2⟩, c0, c1, c2, w0, w1⟩
      refine ⟨some ⟨b, off, none⟩, len, cap, fun i => if hi : i < len then (key i hi).choose else ⟨0, 0, 0⟩, rfl, ⟨Nat.le_trans hl hm, fun _ => ⟨b, off, rfl, fun i hi => ?_⟩⟩, hl⟩
      rw [dif_pos hi]
      exact (key i hi).choose_spec
    · exact ⟨some x, len, cap, fun _ => ⟨0, 0, 0⟩, rfl, ⟨Nat.le_trans hl hm, fun h => absurd h h0⟩, hl⟩
theorem OpAt.below {w w' : World} {b o : Nat} {v : OpV} (h : OpAt w b o v) {n : Nat} (hb : b < n) (m : Below n w w') : OpAt w' b o v := by
  exact ⟨(m.cell (p := ⟨b, o, none⟩) hb).trans h.kind, (m.cell (p := ⟨b, o + 1, none⟩) hb).trans h.node, (m.cell (p := ⟨b, o + 2, none⟩) hb).trans h.mode, h.wkind, h.wnode⟩
/-- A slice of calls that came in stays what it is. -/
theorem IsOps.at {W w : World} {a : Option Addr} {len : Nat} {vs : Nat → OpV} (h : IsOps W a len vs) (m : Below W.heap.size W w) {i : Nat} (hi : i < len) : ∃ b off, a = some ⟨b, off, none⟩ ∧ OpAt w b (off + i * 3) (vs i) := by
  obtain ⟨b, off, rfl, hc⟩ := h.cells (by omega)
  exact ⟨b, off, rfl, (hc i hi).below (lt_of_cell (hc i hi).kind) m⟩
theorem and_small (x : Int) (m : Nat) (hm : m = 3 ∨ m = 7) : ∃ k : Nat, Hid (bits .and .i64 x (m : Int) = (k : Int)) ∧ k ≤ m := by
  have h2 : (BitVec.ofInt 64 x &&& BitVec.ofInt 64 (m : Int)).toNat ≤ m := by
    rw [BitVec.toNat_and]
    have e : (BitVec.ofInt 64 (m : Int)).toNat = m := by rcases hm with rfl | rfl <;> decide
    rw [e]
    exact Nat.and_le_right
  refine ⟨(BitVec.ofInt 64 x &&& BitVec.ofInt 64 (m : Int)).toNat, Lib.hid ?_, h2⟩
  show IntKind.i64.wrap ((BitVec.ofInt 64 x &&& BitVec.ofInt 64 (m : Int)).toNat : Int) = _
  rw [IntWalk.i64_in _ (by omega)]
end Go.Proofs.Ytbeoigkjlgimdaa
