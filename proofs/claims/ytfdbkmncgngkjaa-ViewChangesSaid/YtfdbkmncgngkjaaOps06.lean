/- A slice of calls that came in: what each of them says. -/
import Derived.Test.YtfdbkmncgngkjaaClose
import Derived.Test.YtfdbkmncgngkjaaChecked
import Derived.Deep.Slices
import Derived.Deep.Fields
import Derived.ChangeSame
import Derived.Test.YtfdbkmncgngkjaaLk06
namespace Go.Proofs.Ytfdbkmncgngkjaa
open Go.RowKit Go.ChangeShapes Go.WideShapes Go.ChangeAt Go.Deep

section
variable {H : Type} {enc : TypeId × Value → H} {P : Program} {w : World} {base : Nat} {spare : Nat → Bool} {held : Bool}
theorem open_fields {t e : TypeId} {fs : Array Field} {fuel : Nat} {cs : List Value} {x : DataW H × List MemPlace} (ht : P.underlying t = some (.slice e)) (he : P.underlying e = some (.struct fs))
    (hone : oneCellFields P fs = true) (hC : P.cellsOf e = fs.size) (h : DataW.trod enc P w base spare held fuel t cs = some x) :
    (cs = [.slice none 0 0]) ∨
    ∃ (a : Addr) (len cap m : Nat), cs = [.slice (some a) len cap] ∧ len ≤ cap ∧ cap ≤ maxLen ∧ m = (if spare a.block then cap else len) ∧
      ∀ i, i < m → ∃ (n : Nat), ∀ (j : Nat) (f : Field), fs[j]? = some f → ∃ (v : Value) (y : DataW H × List MemPlace), w.cell? (a.add (i * fs.size + j)) = some v ∧ DataW.trod enc P w base spare held n f.type [v] = some y := by
  rcases open_slice ht h with h0 | ⟨a, len, cap, m, n, D, Pl, hcs, hb, hl, hm, hmm, hx, hi⟩
  · exact .inl h0.1
  · refine .inr ⟨a, len, cap, m, hcs, hl, hm, hmm, fun i him => ?_⟩
    obtain ⟨cs', hc, ht'⟩ := hi i him
    rw [hC] at hc
    obtain ⟨ys, n', hn', hy, hlen, hyl, hf⟩ := DataW.trod_struct he ht'
    obtain ⟨_, hcl, hat⟩ := World.cells?_some hc
    refine ⟨n', fun j f hj => ?_⟩
    obtain ⟨ho, hk⟩ := hone_of hone j f hj
    have hjl : j < fs.size := (Array.getElem?_eq_some_iff.1 hj).1
    have hcell := hat j hjl
    have hv : cs'[j]? = some (cs'[j]'(by omega)) := List.getElem?_eq_getElem (by omega)
    have h1 := hf j f hj
    rw [ho, hk] at h1
    have hone' : (cs'.drop j).take 1 = [cs'[j]'(by omega)] := by
      rw [List.drop_eq_getElem_cons (by omega)]
      rfl
    rw [hone'] at h1
    have hys : ys[j]? = some (ys[j]'(by omega)) := List.getElem?_eq_getElem (by omega)
    refine ⟨_, _, ?_, h1.trans hys⟩
    rw [← Go.Deep.add_add, hcell, hv]
end
/-- A call. -/
structure OpV where
  kind : Int
  node : Int
  by_ : Int
  inc : Int
  own : Bool
/-- A call lies so in five cells. -/
structure OpAt (w : World) (b o : Nat) (v : OpV) : Prop where
  kind : w.cell? ⟨b, o, none⟩ = some (.int .i64 v.kind)
  node : w.cell? ⟨b, o + 1, none⟩ = some (.int .i64 v.node)
  by_ : w.cell? ⟨b, o + 2, none⟩ = some (.int .i64 v.by_)
  inc : w.cell? ⟨b, o + 3, none⟩ = some (.int .i64 v.inc)
  own : w.cell? ⟨b, o + 4, none⟩ = some (.bool v.own)
  wkind : (Lit.int .i64 v.kind).wf = true
  wnode : (Lit.int .i64 v.node).wf = true
  wby : (Lit.int .i64 v.by_).wf = true
  winc : (Lit.int .i64 v.inc).wf = true
/-- A slice of calls that came in. -/
structure IsOps (w : World) (a : Option Addr) (len : Nat) (vs : Nat → OpV) : Prop where
  max : len ≤ maxLen
  cells : 0 < len → ∃ b off, a = some ⟨b, off, none⟩ ∧ ∀ i, i < len → OpAt w b (off + i * 5) (vs i)
set_option maxRecDepth 100000 in
theorem opens_ops {H : Type} {enc : TypeId × Value → H} {W : World} {v : Value} {d : DataW H} {p : List MemPlace} {base : Nat}
    (hv : Value.okWide Try.prog W .any base 38 v) (h : DataW.Trod enc Try.prog W 0 (fun _ => true) true 38 v d p) :
    ∃ a len cap vs, v = .slice a len cap ∧ IsOps W a len vs ∧ len ≤ cap := by
  obtain ⟨a, len, cap, rfl⟩ := okWide_slice Try.underlying38 hv
  obtain ⟨fuel, hf⟩ := h
  rcases open_fields Try.underlying38 Try.underlying40 (by kernel_rfl) (by kernel_rfl) hf with hcs | ⟨x, l, c, m, hcs, hl, hm, hmm, hel⟩
  · simp [Value.cells] at hcs
    obtain ⟨rfl, rfl, rfl⟩ := hcs
    exact ⟨none, 0, 0, fun _ => ⟨0, 0, 0, 0, false⟩, rfl, ⟨Nat.zero_le _, fun h => by omega⟩, Nat.le_refl _⟩
  · simp [Value.cells] at hcs
    obtain ⟨rfl, rfl, rfl⟩ := hcs
    have hmm' : m = cap := by simpa using hmm
    by_cases h0 : 0 < len
    · have hspot : x.spot = none := by
        obtain ⟨n0, h1⟩ := hel 0 (by omega)
        obtain ⟨v0, y0, hc0, _⟩ := h1 0 _ rfl
        have := World.cell?_spot hc0
        simpa [Addr.add] using this
      obtain ⟨b, off, spot⟩ := x
      simp only at hspot
      subst hspot
      have key : ∀ i, i < len → ∃ v : OpV, OpAt W b (off + i * 5) v := fun i hi => by
        obtain ⟨n0, h1⟩ := hel i (by omega)
        have ad : ∀ j, (⟨b, off, none⟩ : Addr).add (i * 5 + j) = ⟨b, off + i * 5 + j, none⟩ := fun j => by rw [Go.WideShapes.add_plain, Nat.add_assoc]
        obtain ⟨v0, y0, c0, t0⟩ := h1 0 _ rfl
        obtain ⟨v1, y1, c1, t1⟩ := h1 1 _ rfl
        obtain ⟨v2, y2, c2, t2⟩ := h1 2 _ rfl
        obtain ⟨v3, y3, c3, t3⟩ := h1 3 _ rfl
        obtain ⟨v4, y4, c4, t4⟩ := h1 4 _ rfl
        obtain ⟨n0, e0, _, w0⟩ := DataW.trod_int Try.underlying3 t0
        obtain ⟨n1, e1, _, w1⟩ := DataW.trod_int Try.underlying3 t1
        obtain ⟨n2, e2, _, w2⟩ := DataW.trod_int Try.underlying3 t2
        obtain ⟨n3, e3, _, w3⟩ := DataW.trod_int Try.underlying3 t3
        obtain ⟨n4, e4, _⟩ := DataW.trod_bool Try.underlying4 t4
        simp only [List.cons.injEq, and_true] at e0 e1 e2 e3 e4
        subst e0 e1 e2 e3 e4
        change W.cell? ((⟨b, off, none⟩ : Addr).add (i * 5 + 0)) = _ at c0
        change W.cell? ((⟨b, off, none⟩ : Addr).add (i * 5 + 1)) = _ at c1
        change W.cell? ((⟨b, off, none⟩ : Addr).add (i * 5 + 2)) = _ at c2
        change W.cell? ((⟨b, off, none⟩ : Addr).add (i * 5 + 3)) = _ at c3
        change W.cell? ((⟨b, off, none⟩ : Addr).add (i * 5 + 4)) = _ at c4
        rw [ad] at c0 c1 c2 c3 c4
        exact ⟨⟨n0, n1, n2, n3, n4⟩, c0, c1, c2, c3, c4, w0, w1, w2, w3⟩
      refine ⟨some ⟨b, off, none⟩, len, cap, fun i => if hi : i < len then (key i hi).choose else ⟨0, 0, 0, 0, false⟩, rfl, ⟨Nat.le_trans hl hm, fun _ => ⟨b, off, rfl, fun i hi => ?_⟩⟩, hl⟩
      rw [dif_pos hi]
      exact (key i hi).choose_spec
    · exact ⟨some x, len, cap, fun _ => ⟨0, 0, 0, 0, false⟩, rfl, ⟨Nat.le_trans hl hm, fun h => absurd h h0⟩, hl⟩
theorem OpAt.below {w w' : World} {b o : Nat} {v : OpV} (h : OpAt w b o v) {n : Nat} (hb : b < n) (m : Below n w w') : OpAt w' b o v := by
  exact ⟨(m.cell (p := ⟨b, o, none⟩) hb).trans h.kind, (m.cell (p := ⟨b, o + 1, none⟩) hb).trans h.node, (m.cell (p := ⟨b, o + 2, none⟩) hb).trans h.by_, (m.cell (p := ⟨b, o + 3, none⟩) hb).trans h.inc, (m.cell (p := ⟨b, o + 4, none⟩) hb).trans h.own, h.wkind, h.wnode, h.wby, h.winc⟩
/-- A slice of calls that came in stays what it is. -/
theorem IsOps.at {W w : World} {a : Option Addr} {len : Nat} {vs : Nat → OpV} (h : IsOps W a len vs) (m : Below W.heap.size W w) {i : Nat} (hi : i < len) : ∃ b off, a = some ⟨b, off, none⟩ ∧ OpAt w b (off + i * 5) (vs i) := by
  obtain ⟨b, off, rfl, hc⟩ := h.cells (by omega)
  exact ⟨b, off, rfl, (hc i hi).below (lt_of_cell (hc i hi).kind) m⟩

/-- The incarnation of a node's member, as the document has it. -/
theorem incs_drop {l : List Mb} {node : Int} {j : Nat} {m : Mb} (h : l[j]? = some m) (hne : m.1 ≠ node) (hj : j ≤ l.findIdx (pOf node)) : j + 1 ≤ l.findIdx (pOf node) :=
  fi_step hj h (by simpa [pOf] using hne)
set_option maxHeartbeats 4000000 in
theorem RInc_any (w : World) (x : Vx) (V : Vw) (h : IsV w x V) (node : Int) :
    Calls Try.prog 32 #[vV x, .int .i64 node] w fun e w' => e = .returned (.int .i64 (incOf V node)) ∧ Below w.heap.size w w' := by
  have Hh := Lib.hid h
  have hn := h.mem.small
  have hlen := h.mem.length
  clear h
  go_enter Try.func32, Try.ntmps32
  go_wp2_with fail
  obtain ⟨w1, Hw1⟩ : ∃ w1, Hid (w.alloc (.cells (vC x) 25) = w1) := ⟨_, Lib.hid rfl⟩
  obtain ⟨b, Hb⟩ : ∃ b, Hid (w.heap.size = b) := ⟨_, Lib.hid rfl⟩
  have HX : Hid (BoxV w1 b x) := Lib.hid (by rw [← Hw1.out, ← Hb.out]; exact BoxV.new w x)
  have HB1 : Hid (Below w.heap.size w w1) := Lib.hid (by rw [← Hw1.out]; exact (Below.refl _ _).alloc (Nat.le_refl _) _)
  rw [show w.alloc (.cells #[.int .i64 x.nodes, .int .i64 x.epoch, .slice x.mA x.mn x.mc, .slice x.dA x.dn x.dc, .slice x.iA x.ir x.ic] 25) = w1 from Hw1.out, Hb.out]
  go_loopw [5] (fun i wr => ∃ j : Nat, i = .int .i64 (j : Int) ∧ j ≤ x.mn ∧ Hid (j ≤ V.mem.findIdx (pOf node)) ∧ Hid (Below w1.heap.size w1 wr)) (fun i _ => x.mn - (intOf i).toNat)
  case atStart => exact ⟨0, rfl, Nat.zero_le _, Lib.hid (Nat.zero_le _), Lib.hid (Below.refl _ _)⟩
  case round =>
    obtain ⟨j, rfl, hj, HF, HB⟩ := hrel
    obtain ⟨v0, v1, v2, v3, v4⟩ := (HX.out.below HB.out).cells
    by_cases hlt : j < x.mn
    · obtain ⟨g, off, eA, hg, hcs⟩ := ((Hh.out.mem.below HB1.out).below HB.out).cells (by omega)
      obtain ⟨m, hm⟩ : ∃ m, V.mem[j]? = some m := ⟨_, List.getElem?_eq_getElem (by rw [hlen]; omega)⟩
      obtain ⟨c0, c1, c2⟩ := hcs j m hm
      rw [eA] at v2
      have HeA := Lib.hid eA
      have Hm := Lib.hid hm
      clear hcs eA hm
      by_cases he : m.1 = node
      · have hb : (m.1 == node) = true := beq_yes he
        have Hi : Hid (incOf V node = m.2.1) := Lib.hid (by unfold incOf; rw [fi_stop HF.out Hm.out (by simpa [pOf] using he), Hm.out])
        clear he
        go_wp2
        go_ret
        exact ⟨ret_int Hi.out.symm, HB1.out.trans (HB.out.mono HB1.out.size)⟩
      · have hb : (m.1 == node) = false := beq_no he
        have HF2 : Hid (j + 1 ≤ V.mem.findIdx (pOf node)) := Lib.hid (incs_drop Hm.out he HF.out)
        clear he
        go_wp2
        go_roundw
        case rel => exact ⟨j + 1, by go_num, by omega, HF2, HB⟩
        case measure => simp [intOf]; omega
    · have Hi : Hid (incOf V node = 0) := Lib.hid (by
        unfold incOf
        rw [List.getElem?_eq_none (by have := HF.out; omega)])
      go_wp2
      go_ret
      exact ⟨ret_int Hi.out.symm, HB1.out.trans (HB.out.mono HB1.out.size)⟩
/-- A change in a block of its own. -/
structure BoxO (w : World) (b : Nat) (o : OpV) : Prop where
  blk : w.heap[b]? = some (.cells #[.int .i64 o.kind, .int .i64 o.node, .int .i64 o.by_, .int .i64 o.inc, .bool o.own] 40 (0, 0))
theorem BoxO.lt {w : World} {b : Nat} {o : OpV} (h : BoxO w b o) : b < w.heap.size := by
  rcases Nat.lt_or_ge b w.heap.size with hlt | hge
  · exact hlt
  · have := h.blk; rw [Array.getElem?_eq_none hge] at this; cases this
theorem BoxO.cells {w : World} {b : Nat} {o : OpV} (h : BoxO w b o) : w.cell? ⟨b, 0, none⟩ = some (.int .i64 o.kind) ∧ w.cell? ⟨b, 1, none⟩ = some (.int .i64 o.node) ∧ w.cell? ⟨b, 2, none⟩ = some (.int .i64 o.by_) ∧ w.cell? ⟨b, 3, none⟩ = some (.int .i64 o.inc) ∧ w.cell? ⟨b, 4, none⟩ = some (.bool o.own) := by
  have := h.blk
  refine ⟨?_, ?_, ?_, ?_, ?_⟩ <;> simp [World.cell?, this]
theorem BoxO.below {w w' : World} {b : Nat} {o : OpV} (h : BoxO w b o) (k : Below w.heap.size w w') : BoxO w' b o := ⟨(k.block b h.lt).trans h.blk⟩
theorem BoxO.new (w : World) (o : OpV) : BoxO (w.alloc (.cells #[.int .i64 o.kind, .int .i64 o.node, .int .i64 o.by_, .int .i64 o.inc, .bool o.own] 40)) w.heap.size o := ⟨heap_alloc_new w _⟩
/-- What a change speaks of: some node and incarnation. -/
def opV (o : OpV) : Value := .agg #[.int .i64 o.kind, .int .i64 o.node, .int .i64 o.by_, .int .i64 o.inc, .bool o.own]
@[go_sem] theorem opV_def (o : OpV) : opV o = .agg #[.int .i64 o.kind, .int .i64 o.node, .int .i64 o.by_, .int .i64 o.inc, .bool o.own] := rfl
set_option maxHeartbeats 4000000 in
theorem of_o_any (w : World) (o : OpV) (ho : (Lit.int .i64 o.inc).wf = true) (x : Vx) (V : Vw) (h : IsV w x V) (hs : V.dead.length ≤ 1000) :
    Calls Try.prog 22 #[opV o, vV x] w fun e w' => ∃ n i : Int, e = .returned (.tuple #[.int .i64 n, .int .i64 i]) ∧ Below w.heap.size w w' := by
  have Hh := Lib.hid h
  have hlen := h.dead.length
  clear h
  obtain ⟨hw1, hw2⟩ : -9223372036854775808 ≤ o.inc ∧ o.inc ≤ 9223372036854775807 := by
    simpa [Lit.wf, IntKind.min, IntKind.max, IntKind.signed, IntKind.bits] using ho
  clear ho
  obtain ⟨kind, node, by_, inc, own⟩ := o
  simp only at hw1 hw2
  obtain ⟨w1, Hw1⟩ : ∃ w1, Hid ((w.alloc (.cells #[.int .i64 kind, .int .i64 node, .int .i64 by_, .int .i64 inc, .bool own] 40)).alloc (.cells (vC x) 25) = w1) := ⟨_, Lib.hid rfl⟩
  obtain ⟨b, Hb⟩ : ∃ b, Hid (w.heap.size = b) := ⟨_, Lib.hid rfl⟩
  have HX : Hid (BoxV w1 (b + 1) x) := Lib.hid (by
    have := BoxV.new (w.alloc (.cells #[.int .i64 kind, .int .i64 node, .int .i64 by_, .int .i64 inc, .bool own] 40)) x
    rw [Hw1.out] at this
    simpa [Hb.out] using this)
  have HO : Hid (BoxO w1 b ⟨kind, node, by_, inc, own⟩) := Lib.hid (by
    have := (BoxO.new w ⟨kind, node, by_, inc, own⟩).below ((Below.refl _ _).alloc (Nat.le_refl _) (.cells (vC x) 25))
    rw [Hw1.out, Hb.out] at this
    exact this)
  have HB1 : Hid (Below w.heap.size w w1) := Lib.hid (by rw [← Hw1.out]; exact balloc ((Below.refl _ _).alloc (Nat.le_refl _) _) _)
  have ho0 : ∀ y : In (Abv w1), y.u.cell? ⟨b, 0, none⟩ = some (.int .i64 kind) := fun y => (HO.out.below y.is).cells.1
  have ho1 : ∀ y : In (Abv w1), y.u.cell? ⟨b, 1, none⟩ = some (.int .i64 node) := fun y => (HO.out.below y.is).cells.2.1
  have ho3 : ∀ y : In (Abv w1), y.u.cell? ⟨b, 3, none⟩ = some (.int .i64 inc) := fun y => (HO.out.below y.is).cells.2.2.2.1
  have hx0 : ∀ y : In (Abv w1), y.u.cell? ⟨b + 1, 0, none⟩ = some (.int .i64 x.nodes) := fun y => (HX.out.below y.is).cells.1
  have hx1 : ∀ y : In (Abv w1), y.u.cell? ⟨b + 1, 1, none⟩ = some (.int .i64 x.epoch) := fun y => (HX.out.below y.is).cells.2.1
  have hx2 : ∀ y : In (Abv w1), y.u.cell? ⟨b + 1, 2, none⟩ = some (.slice x.mA x.mn x.mc) := fun y => (HX.out.below y.is).cells.2.2.1
  have hx3 : ∀ y : In (Abv w1), y.u.cell? ⟨b + 1, 3, none⟩ = some (.slice x.dA x.dn x.dc) := fun y => (HX.out.below y.is).cells.2.2.2.1
  have hx4 : ∀ y : In (Abv w1), y.u.cell? ⟨b + 1, 4, none⟩ = some (.slice x.iA x.ir x.ic) := fun y => (HX.out.below y.is).cells.2.2.2.2
  have Hk : Hid (∃ kk : Nat, (if inc < 0 then -(inc + 1) else inc) = (kk : Int)) := Lib.hid (by
    by_cases h : inc < 0
    · rw [if_pos h]; exact ⟨(-(inc + 1)).toNat, by omega⟩
    · rw [if_neg h]; exact ⟨inc.toNat, by omega⟩)
  cases own with
  | false =>
    by_cases hk : inc < 0
    · have hk' : decide (inc < 0) = true := by simpa using hk
      go_enter Try.func22, Try.ntmps22
      go_wp2
      rw [show (w.alloc (.cells #[.int .i64 kind, .int .i64 node, .int .i64 by_, .int .i64 inc, .bool false] 40)).alloc (.cells #[.int .i64 x.nodes, .int .i64 x.epoch, .slice x.mA x.mn x.mc, .slice x.dA x.dn x.dc, .slice x.iA x.ir x.ic] 25) = w1 from Hw1.out, Hb.out]
      refine wp_region_mix (by kernel_rfl) (Cls (Abv w1)) [(0, 0), (1, 0), (2, 0), (3, 0), (4, 0), (5, 0)] (by kernel_rfl) (cls (Below.refl _ _).drew) ?_
      repeat (refine mix0 rfl (fun K hK => ?_); go_simp; refine hK _ ?_; clear hK K)
      refine mixEnd ?_
      go_wp2
      exact bodyPost_ret (v := .tuple #[.int .i64 (node), .int .i64 (inc)]) (by simp [results, Try.results22, go_sem]) rfl ⟨_, _, rfl, HB1.out.drew⟩
    · have hk' : decide (inc < 0) = false := by simpa using hk
      go_enter Try.func22, Try.ntmps22
      go_wp2
      rw [show (w.alloc (.cells #[.int .i64 kind, .int .i64 node, .int .i64 by_, .int .i64 inc, .bool false] 40)).alloc (.cells #[.int .i64 x.nodes, .int .i64 x.epoch, .slice x.mA x.mn x.mc, .slice x.dA x.dn x.dc, .slice x.iA x.ir x.ic] 25) = w1 from Hw1.out, Hb.out]
      refine wp_region_mix (by kernel_rfl) (Cls (Abv w1)) [(0, 0), (1, 0), (2, 0), (3, 0), (4, 0), (5, 0)] (by kernel_rfl) (cls (Below.refl _ _).drew) ?_
      repeat (refine mix0 rfl (fun K hK => ?_); go_simp; refine hK _ ?_; clear hK K)
      refine mixEnd ?_
      go_wp2
      exact bodyPost_ret (v := .tuple #[.int .i64 (node), .int .i64 (inc)]) (by simp [results, Try.results22, go_sem]) rfl ⟨_, _, rfl, HB1.out.drew⟩
  | true =>
    cases hm : (kind.tmod 4 == 2) with
    | true =>
      by_cases hk : inc < 0
      · have hk' : decide (inc < 0) = true := by simpa using hk
        go_enter Try.func22, Try.ntmps22
        go_wp2
        rw [show (w.alloc (.cells #[.int .i64 kind, .int .i64 node, .int .i64 by_, .int .i64 inc, .bool true] 40)).alloc (.cells #[.int .i64 x.nodes, .int .i64 x.epoch, .slice x.mA x.mn x.mc, .slice x.dA x.dn x.dc, .slice x.iA x.ir x.ic] 25) = w1 from Hw1.out, Hb.out]
        refine wp_region_mix (by kernel_rfl) (Cls (Abv w1)) [(0, 0), (1, 0), (2, 0), (3, 0), (4, 0), (5, 1), (6, 0), (7, 0)] (by kernel_rfl) (cls (Below.refl _ _).drew) ?_
        repeat (refine mix0 rfl (fun K hK => ?_); go_simp; refine hK _ ?_; clear hK K)
        refine mix1 rfl (fun K hK => ?_)
        go_simp
        refine (RInc_any _ x V ((Hh.out.below HB1.out).below (Below.refl _ _).drew) node).mono ?_
        rintro e w2 ⟨rfl, hb2⟩
        have Hb2 : Hid (Below w1.heap.size w1 w2) := Lib.hid ((Below.refl _ _).drew.trans hb2)
        clear hb2
        refine ⟨_, rfl, hK _ _ (cls Hb2.out) ?_⟩
        clear hK K
        repeat (refine mix0 rfl (fun K hK => ?_); go_simp; refine hK _ ?_; clear hK K)
        refine mixEnd ?_
        go_wp2
        exact bodyPost_ret (v := .tuple #[.int .i64 (node), .int .i64 (incOf V node)]) (by simp [results, Try.results22, go_sem]) rfl ⟨_, _, rfl, HB1.out.trans (Hb2.out.mono HB1.out.size)⟩
      · have hk' : decide (inc < 0) = false := by simpa using hk
        go_enter Try.func22, Try.ntmps22
        go_wp2
        rw [show (w.alloc (.cells #[.int .i64 kind, .int .i64 node, .int .i64 by_, .int .i64 inc, .bool true] 40)).alloc (.cells #[.int .i64 x.nodes, .int .i64 x.epoch, .slice x.mA x.mn x.mc, .slice x.dA x.dn x.dc, .slice x.iA x.ir x.ic] 25) = w1 from Hw1.out, Hb.out]
        refine wp_region_mix (by kernel_rfl) (Cls (Abv w1)) [(0, 0), (1, 0), (2, 0), (3, 0), (4, 0), (5, 1), (6, 0), (7, 0)] (by kernel_rfl) (cls (Below.refl _ _).drew) ?_
        repeat (refine mix0 rfl (fun K hK => ?_); go_simp; refine hK _ ?_; clear hK K)
        refine mix1 rfl (fun K hK => ?_)
        go_simp
        refine (RInc_any _ x V ((Hh.out.below HB1.out).below (Below.refl _ _).drew) node).mono ?_
        rintro e w2 ⟨rfl, hb2⟩
        have Hb2 : Hid (Below w1.heap.size w1 w2) := Lib.hid ((Below.refl _ _).drew.trans hb2)
        clear hb2
        refine ⟨_, rfl, hK _ _ (cls Hb2.out) ?_⟩
        clear hK K
        repeat (refine mix0 rfl (fun K hK => ?_); go_simp; refine hK _ ?_; clear hK K)
        refine mixEnd ?_
        go_wp2
        exact bodyPost_ret (v := .tuple #[.int .i64 (node), .int .i64 (incOf V node)]) (by simp [results, Try.results22, go_sem]) rfl ⟨_, _, rfl, HB1.out.trans (Hb2.out.mono HB1.out.size)⟩
    | false =>
      by_cases hd : 0 < x.dn
      · have hd' : decide (0 < (x.dn : Int)) = true := by simpa using hd
        obtain ⟨kk, hkk⟩ := Hk.out
        obtain ⟨g, off, eA, hg, hcs⟩ := (Hh.out.dead.below HB1.out).cells hd
        obtain ⟨q, Hq⟩ : ∃ q, Hid (kk % x.dn = q) := ⟨_, Lib.hid rfl⟩
        have hq : q < x.dn := by rw [← Hq.out]; exact Nat.mod_lt _ hd
        obtain ⟨m, hm0⟩ : ∃ m, V.dead[q]? = some m := ⟨_, List.getElem?_eq_getElem (by rw [hlen]; exact hq)⟩
        have hr : ((kk : Int).tmod (x.dn : Int)) = (q : Int) := by rw [← Hq.out]; exact (Int.ofNat_tmod _ _).symm
        have hne : ¬ x.dn = 0 := by omega
        have hix : ∀ w : World, (Instr.indexAt 22 (.slice x.dA x.dn x.dc) (.int .i64 (q : Int))).run Try.prog w = .ok (.pointer (some ⟨g, off + q * 3, none⟩)) w := fun w => idxM eA hq w
        have k0 : ∀ y : In (Abv w1), y.u.cell? ⟨g, off + q * 3, none⟩ = some (.int .i64 m.1) := fun y => (y.is.cell (p := ⟨g, off + q * 3, none⟩) hg).trans (hcs q m hm0).1
        have k1 : ∀ y : In (Abv w1), y.u.cell? ⟨g, off + q * 3 + 1, none⟩ = some (.int .i64 m.2.1) := fun y => (y.is.cell (p := ⟨g, off + q * 3 + 1, none⟩) hg).trans (hcs q m hm0).2.1
        clear hcs hm0 eA
        by_cases hk : inc < 0
        · have hk' : decide (inc < 0) = true := by simpa using hk
          rw [if_pos hk] at hkk
          go_enter Try.func22, Try.ntmps22
          go_wp2
          rw [show (w.alloc (.cells #[.int .i64 kind, .int .i64 node, .int .i64 by_, .int .i64 inc, .bool true] 40)).alloc (.cells #[.int .i64 x.nodes, .int .i64 x.epoch, .slice x.mA x.mn x.mc, .slice x.dA x.dn x.dc, .slice x.iA x.ir x.ic] 25) = w1 from Hw1.out, Hb.out]
          try rw [hkk]
          refine wp_region_mix (by kernel_rfl) (Cls (Abv w1)) [(0, 0), (1, 0), (2, 0), (3, 0), (4, 0), (5, 0), (6, 0), (7, 0), (8, 0), (9, 0), (10, 0), (11, 0), (12, 0), (13, 0), (14, 0), (15, 0), (16, 0), (17, 0), (18, 0), (19, 0), (20, 0), (21, 0)] (by kernel_rfl) (cls (Below.refl _ _).drew) ?_
          repeat (refine mix0 rfl (fun K hK => ?_); go_simp; refine hK _ ?_; clear hK K)
          refine mixEnd ?_
          go_wp2
          exact bodyPost_ret (v := .tuple #[.int .i64 m.1, .int .i64 m.2.1]) (by simp [results, Try.results22, go_sem]) rfl ⟨_, _, rfl, HB1.out.drew⟩
        · have hk' : decide (inc < 0) = false := by simpa using hk
          rw [if_neg hk] at hkk
          subst hkk
          go_enter Try.func22, Try.ntmps22
          go_wp2
          rw [show (w.alloc (.cells #[.int .i64 kind, .int .i64 node, .int .i64 by_, .int .i64 (kk : Int), .bool true] 40)).alloc (.cells #[.int .i64 x.nodes, .int .i64 x.epoch, .slice x.mA x.mn x.mc, .slice x.dA x.dn x.dc, .slice x.iA x.ir x.ic] 25) = w1 from Hw1.out, Hb.out]
          refine wp_region_mix (by kernel_rfl) (Cls (Abv w1)) [(0, 0), (1, 0), (2, 0), (3, 0), (4, 0), (5, 0), (6, 0), (7, 0), (8, 0), (9, 0), (10, 0), (11, 0), (12, 0), (13, 0), (14, 0), (15, 0), (16, 0), (17, 0), (18, 0), (19, 0), (20, 0), (21, 0)] (by kernel_rfl) (cls (Below.refl _ _).drew) ?_
          repeat (refine mix0 rfl (fun K hK => ?_); go_simp; refine hK _ ?_; clear hK K)
          refine mixEnd ?_
          go_wp2
          exact bodyPost_ret (v := .tuple #[.int .i64 m.1, .int .i64 m.2.1]) (by simp [results, Try.results22, go_sem]) rfl ⟨_, _, rfl, HB1.out.drew⟩
      · have hd' : decide (0 < (x.dn : Int)) = false := by simpa using hd
        by_cases hk : inc < 0
        · have hk' : decide (inc < 0) = true := by simpa using hk
          go_enter Try.func22, Try.ntmps22
          go_wp2
          rw [show (w.alloc (.cells #[.int .i64 kind, .int .i64 node, .int .i64 by_, .int .i64 inc, .bool true] 40)).alloc (.cells #[.int .i64 x.nodes, .int .i64 x.epoch, .slice x.mA x.mn x.mc, .slice x.dA x.dn x.dc, .slice x.iA x.ir x.ic] 25) = w1 from Hw1.out, Hb.out]
          refine wp_region_mix (by kernel_rfl) (Cls (Abv w1)) [(0, 0), (1, 0), (2, 0), (3, 0), (4, 0), (5, 0)] (by kernel_rfl) (cls (Below.refl _ _).drew) ?_
          repeat (refine mix0 rfl (fun K hK => ?_); go_simp; refine hK _ ?_; clear hK K)
          refine mixEnd ?_
          go_wp2
          exact bodyPost_ret (v := .tuple #[.int .i64 (node), .int .i64 (inc)]) (by simp [results, Try.results22, go_sem]) rfl ⟨_, _, rfl, HB1.out.drew⟩
        · have hk' : decide (inc < 0) = false := by simpa using hk
          go_enter Try.func22, Try.ntmps22
          go_wp2
          rw [show (w.alloc (.cells #[.int .i64 kind, .int .i64 node, .int .i64 by_, .int .i64 inc, .bool true] 40)).alloc (.cells #[.int .i64 x.nodes, .int .i64 x.epoch, .slice x.mA x.mn x.mc, .slice x.dA x.dn x.dc, .slice x.iA x.ir x.ic] 25) = w1 from Hw1.out, Hb.out]
          refine wp_region_mix (by kernel_rfl) (Cls (Abv w1)) [(0, 0), (1, 0), (2, 0), (3, 0), (4, 0), (5, 0)] (by kernel_rfl) (cls (Below.refl _ _).drew) ?_
          repeat (refine mix0 rfl (fun K hK => ?_); go_simp; refine hK _ ?_; clear hK K)
          refine mixEnd ?_
          go_wp2
          exact bodyPost_ret (v := .tuple #[.int .i64 (node), .int .i64 (inc)]) (by simp [results, Try.results22, go_sem]) rfl ⟨_, _, rfl, HB1.out.drew⟩
end Go.Proofs.Ytfdbkmncgngkjaa
