
/- The chapter's examples of layouts; a layout as an argument. -/
import Derived.Test.YtoakjcmhmlngfaaLz13
import Derived.Test.YtoakjcmhmlngfaaArr
namespace Go.Proofs.Ytoakjcmhmlngfaa
open Go.RowKit Go.ChangeShapes Go.WideShapes Go.ChangeAt

def lay0 : Lay := ⟨200, 3, 122, 19⟩
/-- Two, three integers in a block. -/
structure I2 (w : World) (b : Nat) (x y : Int) : Prop where
  c0 : w.cell? ⟨b, 0, none⟩ = some (.int .i64 x)
  c1 : w.cell? ⟨b, 1, none⟩ = some (.int .i64 y)
theorem I2.lt {w : World} {b : Nat} {x y : Int} (h : I2 w b x y) : b < w.heap.size := lt_of_cell h.c0
theorem I2.below {w w' : World} {b : Nat} {x y : Int} (h : I2 w b x y) (m : Below w.heap.size w w') : I2 w' b x y :=
  ⟨(m.cell (p := ⟨b, 0, none⟩) h.lt).trans h.c0, (m.cell (p := ⟨b, 1, none⟩) h.lt).trans h.c1⟩
structure I3 (w : World) (b : Nat) (x y z : Int) : Prop where
  c0 : w.cell? ⟨b, 0, none⟩ = some (.int .i64 x)
  c1 : w.cell? ⟨b, 1, none⟩ = some (.int .i64 y)
  c2 : w.cell? ⟨b, 2, none⟩ = some (.int .i64 z)
theorem I3.lt {w : World} {b : Nat} {x y z : Int} (h : I3 w b x y z) : b < w.heap.size := lt_of_cell h.c0
theorem I3.below {w w' : World} {b : Nat} {x y z : Int} (h : I3 w b x y z) (m : Below w.heap.size w w') : I3 w' b x y z :=
  ⟨(m.cell (p := ⟨b, 0, none⟩) h.lt).trans h.c0, (m.cell (p := ⟨b, 1, none⟩) h.lt).trans h.c1, (m.cell (p := ⟨b, 2, none⟩) h.lt).trans h.c2⟩
theorem eq_same (a : Lay) (w : World) : (binOp .eql 25 (.agg #[.int .i64 a.s, .int .i64 a.n, .int .i64 a.f, .int .i64 a.z]) (.agg #[.int .i64 a.s, .int .i64 a.n, .int .i64 a.f, .int .i64 a.z])).run Try.prog w = .ok (.bool true) w := by
  have h := eq_lay a a w
  rw [decide_eq_true rfl] at h
  exact h
theorem open_layout {H : Type} {enc : TypeId × Value → H} {W : World} {v : Value} {d : DataW H} {p : List MemPlace} {base : Nat}
    (hv : Value.okWide Try.prog W .any base 25 v) (h : DataW.Trod enc Try.prog W 0 (fun _ => true) true 25 v d p) :
    ∃ n : Lay, v = n.v ∧ ((Lit.int .i64 n.s).wf = true ∧ (Lit.int .i64 n.n).wf = true ∧ (Lit.int .i64 n.f).wf = true ∧ (Lit.int .i64 n.z).wf = true) := by
  obtain ⟨cs, rfl, hsz⟩ := okWide_struct Try.underlying25 hv
  obtain ⟨fuel, hf⟩ := h
  obtain ⟨xs, n, _, _, hl, hlen, hf⟩ := DataW.trod_struct Try.underlying25 hf
  have k3 : Try.prog.cellsOf 3 = 1 := by kernel_rfl
  have hC : Try.prog.cellsOf 25 = 4 := by kernel_rfl
  rw [hC] at hsz
  obtain ⟨l⟩ := cs
  have hx : ∀ i, i < 4 → ∃ y, xs[i]? = some y := fun i hi => ⟨_, List.getElem?_eq_getElem (by rw [hlen]; exact hi)⟩
  match l, hsz with
  | [a0, a1, a2, a3], _ =>
    have h0 : DataW.trod enc Try.prog W 0 (fun _ => true) true n 3 (List.take (Try.prog.cellsOf 3) [a0, a1, a2, a3]) = xs[0]? := hf 0 _ rfl
    have h1 : DataW.trod enc Try.prog W 0 (fun _ => true) true n 3 (List.take (Try.prog.cellsOf 3) [a1, a2, a3]) = xs[1]? := hf 1 _ rfl
    have h2 : DataW.trod enc Try.prog W 0 (fun _ => true) true n 3 (List.take (Try.prog.cellsOf 3) [a2, a3]) = xs[2]? := hf 2 _ rfl
    have h3 : DataW.trod enc Try.prog W 0 (fun _ => true) true n 3 (List.take (Try.prog.cellsOf 3) [a3]) = xs[3]? := hf 3 _ rfl
    rw [k3] at h0 h1 h2 h3
    obtain ⟨y0, e0⟩ := hx 0 (by decide)
    obtain ⟨y1, e1⟩ := hx 1 (by decide)
    obtain ⟨y2, e2⟩ := hx 2 (by decide)
    obtain ⟨y3, e3⟩ := hx 3 (by decide)
    rw [e0] at h0
    rw [e1] at h1
    rw [e2] at h2
    rw [e3] at h3
    obtain ⟨n0, q0, _, g0⟩ := DataW.trod_int Try.underlying3 h0
    obtain ⟨n1, q1, _, g1⟩ := DataW.trod_int Try.underlying3 h1
    obtain ⟨n2, q2, _, g2⟩ := DataW.trod_int Try.underlying3 h2
    obtain ⟨n3, q3, _, g3⟩ := DataW.trod_int Try.underlying3 h3
    simp only [List.take, List.cons.injEq, and_true] at q0 q1 q2 q3
    subst q0 q1 q2 q3
    exact ⟨⟨n0, n1, n2, n3⟩, rfl, g0, g1, g2, g3⟩
end Go.Proofs.Ytoakjcmhmlngfaa
