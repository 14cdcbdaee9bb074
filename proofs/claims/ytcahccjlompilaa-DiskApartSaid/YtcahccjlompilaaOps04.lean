/- A slice of calls that came in: what each of them says. -/
import Derived.Test.YtcahccjlompilaaClose
import Derived.Test.YtcahccjlompilaaChecked
import Derived.Deep.Slices
import Derived.Deep.Fields
import Derived.ChangeSame
namespace Go.Proofs.Ytcahccjlompilaa
open Go.RowKit Go.ChangeShapes Go.WideShapes Go.ChangeAt Go.Deep

section
variable {H : Type} {enc : TypeId × Value → H} {P : Program} {w : World} {base : Nat} {spare : Nat → Bool} {held : Bool}
theorem open_fields {t e : TypeId} {fs : Array Field} {fuel : Nat} {cs : List Value} {x : DataW H × List MemPlace} (ht : P.underlying t = some (.slice e)) (he : P.underlying e = some (.struct fs))
    (hone : oneCellFields P fs = true) (hC : P.cellsOf e = fs.size) (h : DataW.trod enc P w base spare held fuel t cs = some x) :
    (cs = [.slice none 0 0]) ∨
    ∃ (a : Addr) (len cap m : Nat), cs = [.slice (some a) len cap] ∧ len ≤ cap ∧ cap ≤ maxLen ∧ m = (if spare a.block then cap else len) ∧
      ∀ i, i < m → ∃ (n : Nat), ∀ (j : Nat) (f : Field), fs[j]? = some f → ∃ (v : Value) (y : DataW H × List MemPlace), w.cell? (a.add (i * fs.size + j)) = some v ∧ DataW.trod enc P w base spare held n f.type [v] = some y := by
  rcases open_slice ht h with h0 | ⟨a, len, cap, m, n, D, Pl, hcs, hb, hl, hm, hmm, hx, hi⟩
  · exact .inl h0.1
  · refine .inr ⟨a, len, cap, m, hcs, hl, hm, hmm, fun i him => ?_⟩
    obtain ⟨cs', hc, ht'⟩ := hi i him
    rw [hC] at hc
    obtain ⟨ys, n', hn', hy, hlen, hyl, hf⟩ := DataW.trod_struct he ht'
    obtain ⟨_, hcl, hat⟩ := World.cells?_some hc
    refine ⟨n', fun j f hj => ?_⟩
    obtain ⟨ho, hk⟩ := hone_of hone j f hj
    have hjl : j < fs.size := (Array.getElem?_eq_some_iff.1 hj).1
    have hcell := hat j hjl
    have hv : cs'[j]? = some (cs'[j]'(by omega)) := List.getElem?_eq_getElem (by omega)
    have h1 := hf j f hj
    rw [ho, hk] at h1
    have hone' : (cs'.drop j).take 1 = [cs'[j]'(by omega)] := by
      rw [List.drop_eq_getElem_cons (by omega)]
      rfl
    rw [hone'] at h1
    have hys : ys[j]? = some (ys[j]'(by omega)) := List.getElem?_eq_getElem (by omega)
    refine ⟨_, _, ?_, h1.trans hys⟩
    rw [← Go.Deep.add_add, hcell, hv]
end
/-- A call. -/
structure OpV where
  kind : Int
  key : Int
  sector : Int
  n : Int
  byte : Int
  short : Bool
  pa : Option Addr
  plen : Nat
  pcap : Nat
  pz : List Int
/-- A call lies so in seven cells. -/
structure OpAt (w : World) (b o : Nat) (v : OpV) : Prop where
  kind : w.cell? ⟨b, o, none⟩ = some (.int .i64 v.kind)
  key : w.cell? ⟨b, o + 1, none⟩ = some (.int .i64 v.key)
  sector : w.cell? ⟨b, o + 2, none⟩ = some (.int .i64 v.sector)
  n : w.cell? ⟨b, o + 3, none⟩ = some (.int .i64 v.n)
  byte : w.cell? ⟨b, o + 4, none⟩ = some (.int .u8 v.byte)
  short : w.cell? ⟨b, o + 5, none⟩ = some (.bool v.short)
  picks : w.cell? ⟨b, o + 6, none⟩ = some (.slice v.pa v.plen v.pcap)
  ints : IsInts .i64 w v.pa v.plen v.pz
  cap : v.plen ≤ v.pcap
  wkind : (Lit.int .i64 v.kind).wf = true
  wkey : (Lit.int .i64 v.key).wf = true
  wsector : (Lit.int .i64 v.sector).wf = true
  wn : (Lit.int .i64 v.n).wf = true
  wbyte : (Lit.int .u8 v.byte).wf = true
/-- A slice of calls that came in. -/
structure IsOps (w : World) (a : Option Addr) (len : Nat) (vs : Nat → OpV) : Prop where
  max : len ≤ maxLen
  cells : 0 < len → ∃ b off, a = some ⟨b, off, none⟩ ∧ ∀ i, i < len → OpAt w b (off + i * 7) (vs i)
theorem opens_ints_cap {H : Type} {enc : TypeId × Value → H} {P : Program} {W : World} {t e : TypeId} {k : IntKind} {v : Value} {base0 fuel : Nat} {held : Bool} {x : DataW H × List MemPlace}
    (ht : P.underlying t = some (.slice e)) (he : P.underlying e = some (.int k)) (hc : P.cellsOf e = 1) (h : DataW.trod enc P W base0 (fun _ => true) held fuel t [v] = some x) :
    ∃ a len cap zs, v = .slice a len cap ∧ IsInts k W a len zs ∧ len ≤ cap := by
  rcases open_ints ht he hc h with ⟨hcs, _⟩ | ⟨x, l, c, zs, hcs, _, hl, hm, hz, _, hcell, hwz⟩
  · simp at hcs
    subst hcs
    exact ⟨none, 0, 0, [], rfl, ⟨rfl, Nat.zero_le _, by simp, by omega⟩, Nat.le_refl _⟩
  · simp at hcs
    subst hcs
    have hz' : zs.length = c := by simpa using hz
    refine ⟨some x, l, c, zs.take l, rfl, ⟨by simp; omega, Nat.le_trans hl hm, fun n hn => hwz n (List.mem_of_mem_take hn), fun h0 => ?_⟩, hl⟩
    obtain ⟨b, off, rfl, hc⟩ := ints_at hcell (by omega)
    refine ⟨b, off, rfl, fun i hi => ?_⟩
    rw [hc i (by omega)]
    simp [List.getD, hi]
theorem opens_intsc {H : Type} {enc : TypeId × Value → H} {P : Program} {W : World} {t e : TypeId} {k : IntKind} {v : Value} {d : DataW H} {p : List MemPlace} {base : Nat}
    (ht : P.underlying t = some (.slice e)) (he : P.underlying e = some (.int k)) (hc : P.cellsOf e = 1) (hv : Value.okWide P W .any base t v) (h : DataW.Trod enc P W 0 (fun _ => true) true t v d p) :
    ∃ a len cap zs, v = .slice a len cap ∧ IsInts k W a len zs ∧ len ≤ cap := by
  obtain ⟨a, len, cap, rfl⟩ := okWide_slice ht hv
  obtain ⟨fuel, hf⟩ := h
  exact opens_ints_cap ht he hc hf
set_option maxRecDepth 100000 in
theorem opens_ops {H : Type} {enc : TypeId × Value → H} {W : World} {v : Value} {d : DataW H} {p : List MemPlace} {base : Nat}
    (hv : Value.okWide Try.prog W .any base 22 v) (h : DataW.Trod enc Try.prog W 0 (fun _ => true) true 22 v d p) :
    ∃ a len cap vs, v = .slice a len cap ∧ IsOps W a len vs ∧ len ≤ cap := by
  obtain ⟨a, len, cap, rfl⟩ := okWide_slice Try.underlying22 hv
  obtain ⟨fuel, hf⟩ := h
  rcases open_fields Try.underlying22 Try.underlying31 (by kernel_rfl) (by kernel_rfl) hf with hcs | ⟨x, l, c, m, hcs, hl, hm, hmm, hel⟩
  · simp [Value.cells] at hcs
    obtain ⟨rfl, rfl, rfl⟩ := hcs
    exact ⟨none, 0, 0, fun _ => ⟨0, 0, 0, 0, 0, false, none, 0, 0, []⟩, rfl, ⟨Nat.zero_le _, fun h => by omega⟩, Nat.le_refl _⟩
  · simp [Value.cells] at hcs
    obtain ⟨rfl, rfl, rfl⟩ := hcs
    have hmm' : m = cap := by simpa using hmm
    by_cases h0 : 0 < len
    · have hspot : x.spot = none := by
        obtain ⟨n0, h1⟩ := hel 0 (by omega)
        obtain ⟨v0, y0, hc0, _⟩ := h1 0 _ rfl
        have := World.cell?_spot hc0
        simpa [Addr.add] using this
      obtain ⟨b, off, spot⟩ := x
      simp only at hspot
      subst hspot
      have key : ∀ i, i < len → ∃ v : OpV, OpAt W b (off + i * 7) v := fun i hi => by
        obtain ⟨n0, h1⟩ := hel i (by omega)
        have ad : ∀ j, (⟨b, off, none⟩ : Addr).add (i * 7 + j) = ⟨b, off + i * 7 + j, none⟩ := fun j => by rw [Go.WideShapes.add_plain, Nat.add_assoc]
        obtain ⟨v0, y0, c0, t0⟩ := h1 0 _ rfl
        obtain ⟨v1, y1, c1, t1⟩ := h1 1 _ rfl
        obtain ⟨v2, y2, c2, t2⟩ := h1 2 _ rfl
        obtain ⟨v3, y3, c3, t3⟩ := h1 3 _ rfl
        obtain ⟨v4, y4, c4, t4⟩ := h1 4 _ rfl
        obtain ⟨v5, y5, c5, t5⟩ := h1 5 _ rfl
        obtain ⟨v6, y6, c6, t6⟩ := h1 6 _ rfl
        obtain ⟨n0, e0, _, w0⟩ := DataW.trod_int Try.underlying3 t0
        obtain ⟨n1, e1, _, w1⟩ := DataW.trod_int Try.underlying3 t1
        obtain ⟨n2, e2, _, w2⟩ := DataW.trod_int Try.underlying3 t2
        obtain ⟨n3, e3, _, w3⟩ := DataW.trod_int Try.underlying3 t3
        obtain ⟨n4, e4, _, w4⟩ := DataW.trod_int Try.underlying5 t4
        obtain ⟨n5, e5, _⟩ := DataW.trod_bool Try.underlying4 t5
        obtain ⟨pa, pl, pc, pz, e6, hz, hpc⟩ := opens_ints_cap Try.underlying29 Try.underlying3 (by kernel_rfl) t6
        simp only [List.cons.injEq, and_true] at e0 e1 e2 e3 e4 e5
        subst e0 e1 e2 e3 e4 e5 e6
        change W.cell? ((⟨b, off, none⟩ : Addr).add (i * 7 + 0)) = _ at c0
        change W.cell? ((⟨b, off, none⟩ : Addr).add (i * 7 + 1)) = _ at c1
        change W.cell? ((⟨b, off, none⟩ : Addr).add (i * 7 + 2)) = _ at c2
        change W.cell? ((⟨b, off, none⟩ : Addr).add (i * 7 + 3)) = _ at c3
        change W.cell? ((⟨b, off, none⟩ : Addr).add (i * 7 + 4)) = _ at c4
        change W.cell? ((⟨b, off, none⟩ : Addr).add (i * 7 + 5)) = _ at c5
        change W.cell? ((⟨b, off, none⟩ : Addr).add (i * 7 + 6)) = _ at c6
        rw [ad] at c0 c1 c2 c3 c4 c5 c6
        exact ⟨⟨n0, n1, n2, n3, n4, n5, pa, pl, pc, pz⟩, c0, c1, c2, c3, c4, c5, c6, hz, hpc, w0, w1, w2, w3, w4⟩
      refine ⟨some ⟨b, off, none⟩, len, cap, fun i => if hi : i < len then (key i hi).choose else ⟨0, 0, 0, 0, 0, false, none, 0, 0, []⟩, rfl, ⟨Nat.le_trans hl hm, fun _ => ⟨b, off, rfl, fun i hi => ?_⟩⟩, hl⟩
      rw [dif_pos hi]
      exact (key i hi).choose_spec
    · exact ⟨some x, len, cap, fun _ => ⟨0, 0, 0, 0, 0, false, none, 0, 0, []⟩, rfl, ⟨Nat.le_trans hl hm, fun h => absurd h h0⟩, hl⟩
theorem OpAt.below {w w' : World} {b o : Nat} {v : OpV} (h : OpAt w b o v) (m : Below w.heap.size w w') : OpAt w' b o v := by
  have hb := lt_of_cell h.kind
  refine ⟨(m.cell (p := ⟨b, o, none⟩) hb).trans h.kind, (m.cell (p := ⟨b, o + 1, none⟩) hb).trans h.key, (m.cell (p := ⟨b, o + 2, none⟩) hb).trans h.sector, (m.cell (p := ⟨b, o + 3, none⟩) hb).trans h.n, (m.cell (p := ⟨b, o + 4, none⟩) hb).trans h.byte, (m.cell (p := ⟨b, o + 5, none⟩) hb).trans h.short, (m.cell (p := ⟨b, o + 6, none⟩) hb).trans h.picks,
    ⟨h.ints.length, h.ints.max, h.ints.wf, fun h0 => ?_⟩, h.cap, h.wkind, h.wkey, h.wsector, h.wn, h.wbyte⟩
  obtain ⟨bl, off, e, hc⟩ := h.ints.cells h0
  exact ⟨bl, off, e, fun i hi => (m.cell (p := ⟨bl, off + i, none⟩) (lt_of_cell (hc i hi))).trans (hc i hi)⟩
/-- The last two bits of a number. -/
theorem and3 (x : Int) (h : (Lit.int .i64 x).wf = true) : ∃ k : Nat, Hid (bits .and .i64 x 3 = (k : Int)) ∧ k < 4 := by
  have hb := bounds_i64 h
  have e1 : BitVec.ofInt 64 3 = 3#64 := by decide
  have h2 : (BitVec.ofInt 64 x &&& 3#64).toNat < 4 := by
    rw [BitVec.toNat_and]
    exact Nat.and_lt_two_pow (n := 2) _ (by decide)
  refine ⟨(BitVec.ofInt 64 x &&& 3#64).toNat, Lib.hid ?_, h2⟩
  show IntKind.i64.wrap ((BitVec.ofInt 64 x &&& BitVec.ofInt 64 3).toNat : Int) = _
  rw [e1, IntWalk.i64_in _ (by omega)]
end Go.Proofs.Ytcahccjlompilaa
