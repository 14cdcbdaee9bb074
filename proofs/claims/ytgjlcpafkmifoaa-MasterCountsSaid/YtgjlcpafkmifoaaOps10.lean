/- A slice of calls that came in, each with a note in it. -/
import Derived.Test.YtgjlcpafkmifoaaAw10
namespace Go.Proofs.Ytgjlcpafkmifoaa
open Go.RowKit Go.ChangeShapes Go.WideShapes Go.ChangeAt Go.Deep

/-- A call. -/
structure Op10 where
  kind : Int
  node : Int
  fits : Bool
  note : Nt
/-- A call lies so in eight cells. -/
structure OpAt10 (w : World) (b o : Nat) (v : Op10) : Prop where
  kind : w.cell? ⟨b, o, none⟩ = some (.int .i64 v.kind)
  node : w.cell? ⟨b, o + 1, none⟩ = some (.int .i64 v.node)
  fits : w.cell? ⟨b, o + 2, none⟩ = some (.bool v.fits)
  c0 : w.cell? ⟨b, o + 3, none⟩ = some (.int .i64 v.note.kind)
  c1 : w.cell? ⟨b, o + 3 + 1, none⟩ = some (.int .i64 v.note.epoch)
  c2 : w.cell? ⟨b, o + 3 + 2, none⟩ = some (.int .i64 v.note.res)
  c3 : w.cell? ⟨b, o + 3 + 3, none⟩ = some (.int .i64 v.note.mode)
  c4 : w.cell? ⟨b, o + 3 + 4, none⟩ = some (.int .i64 v.note.seq)
  wkind : (Lit.int .i64 v.kind).wf = true
/-- A slice of calls that came in. -/
structure IsOps10 (w : World) (a : Option Addr) (len : Nat) (vs : Nat → Op10) : Prop where
  max : len ≤ maxLen
  cells : 0 < len → ∃ b off, a = some ⟨b, off, none⟩ ∧ ∀ i, i < len → OpAt10 w b (off + i * 8) (vs i)
set_option maxRecDepth 100000 in
theorem opens_ops10 {H : Type} {enc : TypeId × Value → H} {W : World} {v : Value} {d : DataW H} {p : List MemPlace} {base : Nat}
    (hv : Value.okWide Try.prog W .any base 74 v) (h : DataW.Trod enc Try.prog W 0 (fun _ => true) true 74 v d p) :
    ∃ a len cap vs, v = .slice a len cap ∧ IsOps10 W a len vs ∧ len ≤ cap := by
  obtain ⟨a, len, cap, rfl⟩ := okWide_slice Try.underlying74 hv
  obtain ⟨fuel, hf⟩ := h
  have hC : Try.prog.cellsOf 76 = 8 := by kernel_rfl
  have hCn : Try.prog.cellsOf 23 = 5 := by kernel_rfl
  have hCi : Try.prog.cellsOf 3 = 1 := by kernel_rfl
  have hCb : Try.prog.cellsOf 4 = 1 := by kernel_rfl
  have k0 : Op10 := ⟨0, 0, false, nt0⟩
  rcases open_slice Try.underlying74 hf with hcs | ⟨x, l, c, m, n, D, Pl, hcs, hb, hl, hm, hmm, hx, hi⟩
  · have hcs := hcs.1
    simp [Value.cells] at hcs
    obtain ⟨rfl, rfl, rfl⟩ := hcs
    exact ⟨none, 0, 0, fun _ => k0, rfl, ⟨Nat.zero_le _, fun h => by omega⟩, Nat.le_refl _⟩
  · simp [Value.cells] at hcs
    obtain ⟨rfl, rfl, rfl⟩ := hcs
    have hmm' : m = cap := by simpa using hmm
    by_cases h0 : 0 < len
    · have hspot : x.spot = none := by
        obtain ⟨cs', hc, _⟩ := hi 0 (by omega)
        rw [hC] at hc
        obtain ⟨_, hcl, hat⟩ := World.cells?_some hc
        have h2 := hat 0 (by omega)
        rw [List.getElem?_eq_getElem (by omega)] at h2
        have := World.cell?_spot h2
        simpa [Addr.add] using this
      obtain ⟨b, off, spot⟩ := x
      simp only at hspot
      subst hspot
      have key : ∀ i, i < len → ∃ v : Op10, OpAt10 W b (off + i * 8) v := fun i hil => by
        obtain ⟨cs', hc, ht'⟩ := hi i (by omega)
        rw [hC] at hc
        obtain ⟨_, hcl, hat⟩ := World.cells?_some hc
        have ad : ∀ j, ((⟨b, off, none⟩ : Addr).add (i * 8)).add j = ⟨b, off + i * 8 + j, none⟩ := fun j => by rw [Go.WideShapes.add_plain, Go.WideShapes.add_plain]
        obtain ⟨ys, n', _, _, hlen, hyl, hfl⟩ := DataW.trod_struct Try.underlying76 ht'
        have hlen8 : cs'.length = 8 := hcl
        match cs', hlen8 with
        | [e0, e1, e2, e3, e4, e5, e6, e7], _ =>
          have hy : ∀ i, i < 4 → ∃ y, ys[i]? = some y := fun i hi => ⟨_, List.getElem?_eq_getElem (by rw [hyl]; exact hi)⟩
          have f0 : DataW.trod enc Try.prog W 0 (fun _ => true) true n' 3 (List.take (Try.prog.cellsOf 3) [e0, e1, e2, e3, e4, e5, e6, e7]) = ys[0]? := hfl 0 _ rfl
          have f1 : DataW.trod enc Try.prog W 0 (fun _ => true) true n' 3 (List.take (Try.prog.cellsOf 3) [e1, e2, e3, e4, e5, e6, e7]) = ys[1]? := hfl 1 _ rfl
          have f2 : DataW.trod enc Try.prog W 0 (fun _ => true) true n' 4 (List.take (Try.prog.cellsOf 4) [e2, e3, e4, e5, e6, e7]) = ys[2]? := hfl 2 _ rfl
          have f3 : DataW.trod enc Try.prog W 0 (fun _ => true) true n' 23 (List.take (Try.prog.cellsOf 23) [e3, e4, e5, e6, e7]) = ys[3]? := hfl 3 _ rfl
          obtain ⟨y0, g0⟩ := hy 0 (by decide)
          obtain ⟨y1, g1⟩ := hy 1 (by decide)
          obtain ⟨y2, g2⟩ := hy 2 (by decide)
          obtain ⟨y3, g3⟩ := hy 3 (by decide)
          rw [g0, hCi] at f0
          rw [g1, hCi] at f1
          rw [g2, hCb] at f2
          rw [g3, hCn] at f3
          simp only [List.take] at f0 f1 f2 f3
          obtain ⟨a0, q0, _, w0⟩ := DataW.trod_int Try.underlying3 f0
          obtain ⟨a1, q1, _, _⟩ := DataW.trod_int Try.underlying3 f1
          obtain ⟨a2, q2, _⟩ := DataW.trod_bool Try.underlying4 f2
          obtain ⟨zs, n2, _, _, hlen2, hzl, hfn⟩ := DataW.trod_struct Try.underlying23 f3
          have hz : ∀ i, i < 5 → ∃ y, zs[i]? = some y := fun i hi => ⟨_, List.getElem?_eq_getElem (by rw [hzl]; exact hi)⟩
          have k0 : DataW.trod enc Try.prog W 0 (fun _ => true) true n2 3 (List.take (Try.prog.cellsOf 3) [e3, e4, e5, e6, e7]) = zs[0]? := hfn 0 _ rfl
          have k1 : DataW.trod enc Try.prog W 0 (fun _ => true) true n2 3 (List.take (Try.prog.cellsOf 3) [e4, e5, e6, e7]) = zs[1]? := hfn 1 _ rfl
          have k2 : DataW.trod enc Try.prog W 0 (fun _ => true) true n2 3 (List.take (Try.prog.cellsOf 3) [e5, e6, e7]) = zs[2]? := hfn 2 _ rfl
          have k3 : DataW.trod enc Try.prog W 0 (fun _ => true) true n2 3 (List.take (Try.prog.cellsOf 3) [e6, e7]) = zs[3]? := hfn 3 _ rfl
          have k4 : DataW.trod enc Try.prog W 0 (fun _ => true) true n2 3 (List.take (Try.prog.cellsOf 3) [e7]) = zs[4]? := hfn 4 _ rfl
          obtain ⟨z0, j0⟩ := hz 0 (by decide)
          obtain ⟨z1, j1⟩ := hz 1 (by decide)
          obtain ⟨z2, j2⟩ := hz 2 (by decide)
          obtain ⟨z3, j3⟩ := hz 3 (by decide)
          obtain ⟨z4, j4⟩ := hz 4 (by decide)
          rw [j0, hCi] at k0
          rw [j1, hCi] at k1
          rw [j2, hCi] at k2
          rw [j3, hCi] at k3
          rw [j4, hCi] at k4
          simp only [List.take] at k0 k1 k2 k3 k4
          obtain ⟨b0, r0, _, _⟩ := DataW.trod_int Try.underlying3 k0
          obtain ⟨b1, r1, _, _⟩ := DataW.trod_int Try.underlying3 k1
          obtain ⟨b2, r2, _, _⟩ := DataW.trod_int Try.underlying3 k2
          obtain ⟨b3, r3, _, _⟩ := DataW.trod_int Try.underlying3 k3
          obtain ⟨b4, r4, _, _⟩ := DataW.trod_int Try.underlying3 k4
          simp only [List.cons.injEq, and_true] at q0 q1 q2 r0 r1 r2 r3 r4
          subst q0 q1 q2 r0 r1 r2 r3 r4
          have cell : ∀ j e, ([.int .i64 a0, .int .i64 a1, .bool a2, .int .i64 b0, .int .i64 b1, .int .i64 b2, .int .i64 b3, .int .i64 b4] : List Value)[j]? = some e → W.cell? ⟨b, off + i * 8 + j, none⟩ = some e := fun j e he => by
            have hj := (List.getElem?_eq_some_iff.1 he).1
            have h2 := hat j (by simpa using hj)
            rw [← ad, ← he]
            exact h2
          exact ⟨⟨a0, a1, a2, ⟨b0, b1, b2, b3, b4⟩⟩, cell 0 _ rfl, cell 1 _ rfl, cell 2 _ rfl, cell 3 _ rfl, cell 4 _ rfl, cell 5 _ rfl, cell 6 _ rfl, cell 7 _ rfl, w0⟩
      refine ⟨some ⟨b, off, none⟩, len, cap, fun i => if hi : i < len then (key i hi).choose else k0, rfl, ⟨Nat.le_trans hl hm, fun _ => ⟨b, off, rfl, fun i hi => ?_⟩⟩, hl⟩
      rw [dif_pos hi]
      exact (key i hi).choose_spec
    · exact ⟨some x, len, cap, fun _ => k0, rfl, ⟨Nat.le_trans hl hm, fun h => absurd h h0⟩, hl⟩
theorem OpAt10.below {w w' : World} {b o : Nat} {v : Op10} (h : OpAt10 w b o v) {n : Nat} (hb : b < n) (m : Below n w w') : OpAt10 w' b o v :=
  ⟨(m.cell (p := ⟨b, o, none⟩) hb).trans h.kind, (m.cell (p := ⟨b, o + 1, none⟩) hb).trans h.node, (m.cell (p := ⟨b, o + 2, none⟩) hb).trans h.fits, (m.cell (p := ⟨b, o + 3, none⟩) hb).trans h.c0, (m.cell (p := ⟨b, o + 3 + 1, none⟩) hb).trans h.c1, (m.cell (p := ⟨b, o + 3 + 2, none⟩) hb).trans h.c2, (m.cell (p := ⟨b, o + 3 + 3, none⟩) hb).trans h.c3, (m.cell (p := ⟨b, o + 3 + 4, none⟩) hb).trans h.c4, h.wkind⟩
/-- A slice of calls that came in stays what it is. -/
theorem IsOps10.at {W w : World} {a : Option Addr} {len : Nat} {vs : Nat → Op10} (h : IsOps10 W a len vs) (m : Below W.heap.size W w) {i : Nat} (hi : i < len) : ∃ b off, a = some ⟨b, off, none⟩ ∧ b < W.heap.size ∧ OpAt10 w b (off + i * 8) (vs i) := by
  obtain ⟨b, off, rfl, hc⟩ := h.cells (by omega)
  have hlt := lt_of_cell (hc i hi).kind
  exact ⟨b, off, rfl, hlt, (hc i hi).below hlt m⟩
end Go.Proofs.Ytgjlcpafkmifoaa
