
/- A slice of calls that came in: what each of them says. -/
import Derived.Test.YtnbhjehaecifcaaClose
import Derived.Test.YtnbhjehaecifcaaChecked
import Derived.Deep.Slices
import Derived.Deep.Fields
import Derived.ChangeSame
import Derived.Test.YtnbhjehaecifcaaLk06
namespace Go.Proofs.Ytnbhjehaecifcaa
open Go.RowKit Go.ChangeShapes Go.WideShapes Go.ChangeAt Go.Deep

section
variable {H : Type} {enc : TypeId × Value → H} {P : Program} {w : World} {base : Nat} {spare : Nat → Bool} {held : Bool}
theorem open_fields {t e : TypeId} {fs : Array Field} {fuel : Nat} {cs : List Value} {x : DataW H × List MemPlace} (ht : P.underlying t = some (.slice e)) (he : P.underlying e = some (.struct fs))
    (hone : oneCellFields P fs = true) (hC : P.cellsOf e = fs.size) (h : DataW.trod enc P w base spare held fuel t cs = some x) :
    (cs = [.slice none 0 0]) ∨
    ∃ (a : Addr) (len cap m : Nat), cs = [.slice (some a) len cap] ∧ len ≤ cap ∧ cap ≤ maxLen ∧ m = (if spare a.block then cap else len) ∧
      ∀ i, i < m → ∃ (n : Nat), ∀ (j : Nat) (f : Field), fs[j]? = some f → ∃ (v : Value) (y : DataW H × List MemPlace), w.cell? (a.add (i * fs.size + j)) = some v ∧ DataW.trod enc P w base spare held n f.type [v] = some y := by
  rcases open_slice ht h with h0 | ⟨a, len, cap, m, n, D, Pl, hcs, hb, hl, hm, hmm, hx, hi⟩
  · exact .inl h0.1
  · refine .inr ⟨a, len, cap, m, hcs, hl, hm, hmm, fun i him => ?_⟩
    obtain ⟨cs', hc, ht'⟩ := hi i him
    rw [hC] at hc
    obtain ⟨ys, n', hn', hy, hlen, hyl, hf⟩ := DataW.trod_struct he ht'
    obtain ⟨_, hcl, hat⟩ := World.cells?_some hc
    refine ⟨n', fun j f hj => ?_⟩
    obtain ⟨ho, hk⟩ := hone_of hone j f hj
    have hjl : j < fs.size := (Array.getElem?_eq_some_iff.1 hj).1
    have hcell := hat j hjl
    have hv : cs'[j]? = some (cs'[j]'(by omega)) := List.getElem?_eq_getElem (by omega)
    have h1 := hf j f hj
    rw [ho, hk] at h1
    have hone' : (cs'.drop j).take 1 = [cs'[j]'(by omega)] := by
      rw [List.drop_eq_getElem_cons (by omega)]
      rfl
    rw [hone'] at h1
    have hys : ys[j]? = some (ys[j]'(by omega)) := List.getElem?_eq_getElem (by omega)
    refine ⟨_, _, ?_, h1.trans hys⟩
    rw [← Go.Deep.add_add, hcell, hv]
end
/-- A call. -/
structure OpV where
  kind : Int
  node : Int
  by_ : Int
  inc : Int
  own : Bool
/-- A call lies so in five cells. -/
structure OpAt (w : World) (b o : Nat) (v : OpV) : Prop where
  kind : w.cell? ⟨b, o, none⟩ = some (.int .i64 v.kind)
  node : w.cell? ⟨b, o + 1, none⟩ = some (.int .i64 v.node)
  by_ : w.cell? ⟨b, o + 2, none⟩ = some (.int .i64 v.by_)
  inc : w.cell? ⟨b, o + 3, none⟩ = some (.int .i64 v.inc)
  own : w.cell? ⟨b, o + 4, none⟩ = some (.bool v.own)
  wkind : (Lit.int .i64 v.kind).wf = true
  wnode : (Lit.int .i64 v.node).wf = true
  wby : (Lit.int .i64 v.by_).wf = true
  winc : (Lit.int .i64 v.inc).wf = true
/-- A slice of calls that came in. -/
structure IsOps (w : World) (a : Option Addr) (len : Nat) (vs : Nat → OpV) : Prop where
  max : len ≤ maxLen
  cells : 0 < len → ∃ b off, a = some ⟨b, off, none⟩ ∧ ∀ i, i < len → OpAt w b (off + i * 5) (vs i)
theorem OpAt.below {w w' : World} {b o : Nat} {v : OpV} (h : OpAt w b o v) {n : Nat} (hb : b < n) (m : Below n w w') : OpAt w' b o v := by
  exact ⟨(m.cell (p := ⟨b, o, none⟩) hb).trans h.kind, (m.cell (p := ⟨b, o + 1, none⟩) hb).trans h.node, (m.cell (p := ⟨b, o + 2, none⟩) hb).trans h.by_, (m.cell (p := ⟨b, o + 3, none⟩) hb).trans h.inc, (m.cell (p := ⟨b, o + 4, none⟩) hb).trans h.own, h.wkind, h.wnode, h.wby, h.winc⟩
/-- A slice of calls that came in stays what it is. -/
theorem IsOps.at {W w : World} {a : Option Addr} {len : Nat} {vs : Nat → OpV} (h : IsOps W a len vs) (m : Below W.heap.size W w) {i : Nat} (hi : i < len) : ∃ b off, a = some ⟨b, off, none⟩ ∧ OpAt w b (off + i * 5) (vs i) := by
  obtain ⟨b, off, rfl, hc⟩ := h.cells (by omega)
  exact ⟨b, off, rfl, (hc i hi).below (lt_of_cell (hc i hi).kind) m⟩

/-- The incarnation of a node's member, as the document has it. -/
theorem incs_drop {l : List Mb} {node : Int} {j : Nat} {m : Mb} (h : l[j]? = some m) (hne : m.1 ≠ node) (hj : j ≤ l.findIdx (pOf node)) : j + 1 ≤ l.findIdx (pOf node) :=
  fi_step hj h (by simpa [pOf] using hne)
set_option maxHeartbeats 4000000 in
theorem RInc_any (w : World) (x : Vx) (V : Vw) (h : IsV w x V) (node : Int) :
    Calls Try.prog 26 #[vV x, .int .i64 node] w fun e w' => e = .returned (.int .i64 (incOf V node)) ∧ Below w.heap.size w w' := by
  have Hh := Lib.hid h
  have hn := h.mem.small
  have hlen := h.mem.length
  clear h
  go_enter Try.func26, Try.ntmps26
  go_wp2_with fail
  obtain ⟨w1, Hw1⟩ : ∃ w1, Hid (w.alloc (.cells (vC x) 25) = w1) := ⟨_, Lib.hid rfl⟩
  obtain ⟨b, Hb⟩ : ∃ b, Hid (w.heap.size = b) := ⟨_, Lib.hid rfl⟩
  have HX : Hid (BoxV w1 b x) := Lib.hid (by rw [← Hw1.out, ← Hb.out]; exact BoxV.new w x)
  have HB1 : Hid (Below w.heap.size w w1) := Lib.hid (by rw [← Hw1.out]; exact (Below.refl _ _).alloc (Nat.le_refl _) _)
  rw [show w.alloc (.cells #[.int .i64 x.nodes, .int .i64 x.epoch, .slice x.mA x.mn x.mc, .slice x.dA x.dn x.dc, .slice x.iA x.ir x.ic] 25) = w1 from Hw1.out, Hb.out]
  go_loopw [5] (fun i wr => ∃ j : Nat, i = .int .i64 (j : Int) ∧ j ≤ x.mn ∧ Hid (j ≤ V.mem.findIdx (pOf node)) ∧ Hid (Below w1.heap.size w1 wr)) (fun i _ => x.mn - (intOf i).toNat)
  case atStart => exact ⟨0, rfl, Nat.zero_le _, Lib.hid (Nat.zero_le _), Lib.hid (Below.refl _ _)⟩
  case round =>
    obtain ⟨j, rfl, hj, HF, HB⟩ := hrel
    obtain ⟨v0, v1, v2, v3, v4⟩ := (HX.out.below HB.out).cells
    by_cases hlt : j < x.mn
    · obtain ⟨g, off, eA, hg, hcs⟩ := ((Hh.out.mem.below HB1.out).below HB.out).cells (by omega)
      obtain ⟨m, hm⟩ : ∃ m, V.mem[j]? = some m := ⟨_, List.getElem?_eq_getElem (by rw [hlen]; omega)⟩
      obtain ⟨c0, c1, c2⟩ := hcs j m hm
      rw [eA] at v2
      have HeA := Lib.hid eA
      have Hm := Lib.hid hm
      clear hcs eA hm
      by_cases he : m.1 = node
      · have hb : (m.1 == node) = true := beq_yes he
        have Hi : Hid (incOf V node = m.2.1) := Lib.hid (by unfold incOf; rw [fi_stop HF.out Hm.out (by simpa [pOf] using he), Hm.out])
        clear he
        go_wp2
        go_ret
        exact ⟨ret_int Hi.out.symm, HB1.out.trans (HB.out.mono HB1.out.size)⟩
      · have hb : (m.1 == node) = false := beq_no he
        have HF2 : Hid (j + 1 ≤ V.mem.findIdx (pOf node)) := Lib.hid (incs_drop Hm.out he HF.out)
        clear he
        go_wp2
        go_roundw
        case rel => exact ⟨j + 1, by go_num, by omega, HF2, HB⟩
        case measure => simp [intOf]; omega
    · have Hi : Hid (incOf V node = 0) := Lib.hid (by
        unfold incOf
        rw [List.getElem?_eq_none (by have := HF.out; omega)])
      go_wp2
      go_ret
      exact ⟨ret_int Hi.out.symm, HB1.out.trans (HB.out.mono HB1.out.size)⟩
/-- What a change speaks of: some node and incarnation. -/
def opV (o : OpV) : Value := .agg #[.int .i64 o.kind, .int .i64 o.node, .int .i64 o.by_, .int .i64 o.inc, .bool o.own]
@[go_sem] theorem opV_def (o : OpV) : opV o = .agg #[.int .i64 o.kind, .int .i64 o.node, .int .i64 o.by_, .int .i64 o.inc, .bool o.own] := rfl
end Go.Proofs.Ytnbhjehaecifcaa
