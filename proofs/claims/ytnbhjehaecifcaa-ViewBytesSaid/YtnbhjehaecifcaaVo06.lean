/- A view that came in as an argument; a view whose lists are cut at 30. -/
import Derived.Test.YtnbhjehaecifcaaOps06
namespace Go.Proofs.Ytnbhjehaecifcaa
open Go.RowKit Go.ChangeShapes Go.WideShapes Go.ChangeAt Go.Deep

set_option maxRecDepth 100000 in
theorem isL_of {H : Type} {enc : TypeId × Value → H} {W : World} {fuel : Nat} {cs : List Value} {x : DataW H × List MemPlace} (h : DataW.trod enc Try.prog W 0 (fun _ => true) true fuel 22 cs = some x) :
    ∃ A n c l, cs = [.slice A n c] ∧ IsL W A n c l := by
  rcases open_fields Try.underlying22 Try.underlying43 (by kernel_rfl) (by kernel_rfl) h with hcs | ⟨a, l, c, m, hcs, hl, hm, hmm, hel⟩
  · exact ⟨none, 0, 0, [], hcs, rfl, Nat.le_refl _, Nat.zero_le _, fun h => absurd h (Nat.lt_irrefl _), fun _ => rfl⟩
  · have hmm' : m = c := by simpa using hmm
    by_cases h0 : 0 < l
    · have hspot : a.spot = none := by
        obtain ⟨n0, h1⟩ := hel 0 (by omega)
        obtain ⟨v0, y0, hc0, _⟩ := h1 0 _ rfl
        have := World.cell?_spot hc0
        simpa [Addr.add] using this
      obtain ⟨b, off, spot⟩ := a
      simp only at hspot
      subst hspot
      have key : ∀ i, i < l → ∃ v : Mb, W.cell? ⟨b, off + i * 3, none⟩ = some (.int .i64 v.1) ∧ W.cell? ⟨b, off + i * 3 + 1, none⟩ = some (.int .i64 v.2.1) ∧ W.cell? ⟨b, off + i * 3 + 2, none⟩ = some (.bool v.2.2) := fun i hi => by
        obtain ⟨n0, h1⟩ := hel i (by omega)
        have ad : ∀ j, (⟨b, off, none⟩ : Addr).add (i * 3 + j) = ⟨b, off + i * 3 + j, none⟩ := fun j => by rw [Go.WideShapes.add_plain, Nat.add_assoc]
        obtain ⟨v0, y0, c0, t0⟩ := h1 0 _ rfl
        obtain ⟨v1, y1, c1, t1⟩ := h1 1 _ rfl
        obtain ⟨v2, y2, c2, t2⟩ := h1 2 _ rfl
        obtain ⟨n0, e0, _, w0⟩ := DataW.trod_int Try.underlying3 t0
        obtain ⟨n1, e1, _, w1⟩ := DataW.trod_int Try.underlying3 t1
        obtain ⟨n2, e2, _⟩ := DataW.trod_bool Try.underlying4 t2
        simp only [List.cons.injEq, and_true] at e0 e1 e2
        subst e0 e1 e2
        change W.cell? ((⟨b, off, none⟩ : Addr).add (i * 3 + 0)) = _ at c0
        change W.cell? ((⟨b, off, none⟩ : Addr).add (i * 3 + 1)) = _ at c1
        change W.cell? ((⟨b, off, none⟩ : Addr).add (i * 3 + 2)) = _ at c2
        rw [ad] at c0 c1 c2
        exact ⟨(n0, n1, n2), c0, c1, c2⟩
      refine ⟨some ⟨b, off, none⟩, l, c, (List.range l).map fun i => if hi : i < l then (key i hi).choose else (0, 0, false), hcs, by simp, hl, hm, fun _ => ⟨b, off, rfl, ?_, fun i q hq => ?_⟩, fun e => by cases e⟩
      · exact lt_of_cell (key 0 h0).choose_spec.1
      · have hi : i < l := by have := (List.getElem?_eq_some_iff.1 hq).1; simpa using this
        have hq' : (key i hi).choose = q := by
          rw [List.getElem?_map, List.getElem?_range hi] at hq
          simpa [hi] using hq
        rw [← hq']
        exact (key i hi).choose_spec
    · exact ⟨some a, l, c, [], hcs, by simp; omega, hl, hm, fun h => absurd h h0, fun e => by cases e⟩
theorem isI_of {H : Type} {enc : TypeId × Value → H} {W : World} {fuel : Nat} {cs : List Value} {x : DataW H × List MemPlace} (h : DataW.trod enc Try.prog W 0 (fun _ => true) true fuel 23 cs = some x) :
    ∃ A n c l, cs = [.slice A n c] ∧ IsI W A n c l := by
  rcases open_ints Try.underlying23 Try.underlying3 (by kernel_rfl) h with ⟨hcs, _⟩ | ⟨a, l, c, zs, hcs, _, hl, hm, hz, _, hcell, hwz⟩
  · exact ⟨none, 0, 0, [], hcs, rfl, Nat.le_refl _, Nat.zero_le _, fun h => absurd h (Nat.lt_irrefl _), fun _ => rfl⟩
  · have hz' : zs.length = c := by simpa using hz
    by_cases h0 : 0 < l
    · obtain ⟨b, off, rfl, hc⟩ := ints_at hcell (by omega)
      refine ⟨some ⟨b, off, none⟩, l, c, zs.take l, hcs, by simp; omega, hl, hm, fun _ => ⟨b, off, rfl, lt_of_cell (hc 0 (by omega)), fun i z hi => ?_⟩, fun e => by cases e⟩
      have hil : i < l := by have := (List.getElem?_eq_some_iff.1 hi).1; simp at this; omega
      rw [hc i (by omega)]
      rw [List.getElem?_take, if_pos hil] at hi
      simp [List.getD, hi]
    · exact ⟨some a, l, c, [], hcs, by simp; omega, hl, hm, fun h => absurd h h0, fun e => by cases e⟩
set_option maxRecDepth 100000 in
theorem open_view {H : Type} {enc : TypeId × Value → H} {W : World} {v : Value} {d : DataW H} {p : List MemPlace} {base : Nat}
    (hv : Value.okWide Try.prog W .any base 25 v) (h : DataW.Trod enc Try.prog W 0 (fun _ => true) true 25 v d p) : ∃ x V, v = vV x ∧ IsV W x V := by
  obtain ⟨cs, rfl, hsz⟩ := okWide_struct Try.underlying25 hv
  obtain ⟨fuel, hf⟩ := h
  obtain ⟨xs, n, _, _, hl, hlen, hf⟩ := DataW.trod_struct Try.underlying25 hf
  have k3 : Try.prog.cellsOf 3 = 1 := by kernel_rfl
  have k22 : Try.prog.cellsOf 22 = 1 := by kernel_rfl
  have k23 : Try.prog.cellsOf 23 = 1 := by kernel_rfl
  have hC : Try.prog.cellsOf 25 = 5 := by kernel_rfl
  rw [hC] at hsz
  obtain ⟨l⟩ := cs
  have hx : ∀ i, i < 5 → ∃ y, xs[i]? = some y := fun i hi => ⟨_, List.getElem?_eq_getElem (by rw [hlen]; exact hi)⟩
  match l, hsz with
  | [a0, a1, a2, a3, a4], _ =>
    have h0 : DataW.trod enc Try.prog W 0 (fun _ => true) true n 3 (List.take (Try.prog.cellsOf 3) [a0, a1, a2, a3, a4]) = xs[0]? := hf 0 _ rfl
    have h1 : DataW.trod enc Try.prog W 0 (fun _ => true) true n 3 (List.take (Try.prog.cellsOf 3) [a1, a2, a3, a4]) = xs[1]? := hf 1 _ rfl
    have h2 : DataW.trod enc Try.prog W 0 (fun _ => true) true n 22 (List.take (Try.prog.cellsOf 22) [a2, a3, a4]) = xs[2]? := hf 2 _ rfl
    have h3 : DataW.trod enc Try.prog W 0 (fun _ => true) true n 22 (List.take (Try.prog.cellsOf 22) [a3, a4]) = xs[3]? := hf 3 _ rfl
    have h4 : DataW.trod enc Try.prog W 0 (fun _ => true) true n 23 (List.take (Try.prog.cellsOf 23) [a4]) = xs[4]? := hf 4 _ rfl
    rw [k3] at h0 h1
    rw [k22] at h2 h3
    rw [k23] at h4
    obtain ⟨y0, e0⟩ := hx 0 (by omega)
    obtain ⟨y1, e1⟩ := hx 1 (by omega)
    obtain ⟨y2, e2⟩ := hx 2 (by omega)
    obtain ⟨y3, e3⟩ := hx 3 (by omega)
    obtain ⟨y4, e4⟩ := hx 4 (by omega)
    obtain ⟨n0, p0, _, _⟩ := DataW.trod_int Try.underlying3 (h0.trans e0)
    obtain ⟨n1, p1, _, _⟩ := DataW.trod_int Try.underlying3 (h1.trans e1)
    obtain ⟨A2, n2, c2, l2, p2, q2⟩ := isL_of (h2.trans e2)
    obtain ⟨A3, n3, c3, l3, p3, q3⟩ := isL_of (h3.trans e3)
    obtain ⟨A4, n4, c4, l4, p4, q4⟩ := isI_of (h4.trans e4)
    simp only [List.take_succ_cons, List.take_zero, List.cons.injEq, and_true] at p0 p1 p2 p3 p4
    subst p0 p1 p2 p3 p4
    exact ⟨⟨n0, n1, A2, n2, c2, A3, n3, c3, A4, n4, c4⟩, ⟨n0, n1, l2, l3, l4⟩, rfl, rfl, rfl, q2, q3, q4⟩

theorem IsL.first {w : World} {A : Option Addr} {n c : Nat} {l : List Mb} (h : IsL w A n c l) {k : Nat} (hk : k ≤ n) : IsL w A k c (l.take k) :=
  ⟨by rw [List.length_take, h.length]; omega, Nat.le_trans hk h.le, h.max, fun h0 => by
    obtain ⟨g, off, e, hg, hc⟩ := h.cells (by omega)
    exact ⟨g, off, e, hg, fun i m hm => hc i m (by rw [List.getElem?_take] at hm; split at hm; exact hm; cases hm)⟩, h.nil⟩
theorem IsI.first {w : World} {A : Option Addr} {n c : Nat} {l : List Int} (h : IsI w A n c l) {k : Nat} (hk : k ≤ n) : IsI w A k c (l.take k) :=
  ⟨by rw [List.length_take, h.length]; omega, Nat.le_trans hk h.le, h.max, fun h0 => by
    obtain ⟨g, off, e, hg, hc⟩ := h.cells (by omega)
    exact ⟨g, off, e, hg, fun i m hm => hc i m (by rw [List.getElem?_take] at hm; split at hm; exact hm; cases hm)⟩, h.nil⟩
/-- A view of which less is left. -/
structure Cut3 (x x' : Vx) : Prop where
  mem : x'.mA = x.mA ∧ x'.mn ≤ x.mn
  dead : x'.dA = x.dA ∧ x'.dn ≤ x.dn
  incs : x'.iA = x.iA ∧ x'.ir ≤ x.ir
/-- The view in box b is cut; the result lies in b + 1. -/
structure Sv (w0 w : World) (b : Nat) (xo x : Vx) (V : Vw) : Prop where
  size : w0.heap.size = b
  org : IsV w0 x V
  box : BoxV w b x
  res : BoxV w (b + 1) noVx
  below : Below b w0 w
  cut : Cut3 xo x
section
variable {w0 w : World} {b : Nat} {xo x : Vx} {V : Vw}
theorem Sv.mem (h : Sv w0 w b xo x V) (hk : 30 ≤ x.mn) : Sv w0 (w.setCell ⟨b, 2, none⟩ (.slice x.mA 30 x.mc)) b xo { x with mn := 30 } { V with mem := V.mem.take 30 } := by
  have e : Mod (· = b) w (w.setCell ⟨b, 2, none⟩ (.slice x.mA 30 x.mc)) := mod_cell w ⟨b, 2, none⟩ _
  exact ⟨h.size, ⟨h.org.nodes, h.org.epoch, h.org.mem.first hk, h.org.dead, h.org.incs⟩, h.box.put 2 _ _ rfl, h.res.kept e (by omega), e.below h.below (Nat.le_of_lt h.box.lt) (fun i hi => by rw [show i = b from hi]; exact Nat.le_refl _), ⟨⟨h.cut.mem.1, Nat.le_trans hk h.cut.mem.2⟩, h.cut.dead, h.cut.incs⟩⟩
theorem Sv.dead (h : Sv w0 w b xo x V) (hk : 30 ≤ x.dn) : Sv w0 (w.setCell ⟨b, 3, none⟩ (.slice x.dA 30 x.dc)) b xo { x with dn := 30 } { V with dead := V.dead.take 30 } := by
  have e : Mod (· = b) w (w.setCell ⟨b, 3, none⟩ (.slice x.dA 30 x.dc)) := mod_cell w ⟨b, 3, none⟩ _
  exact ⟨h.size, ⟨h.org.nodes, h.org.epoch, h.org.mem, h.org.dead.first hk, h.org.incs⟩, h.box.put 3 _ _ rfl, h.res.kept e (by omega), e.below h.below (Nat.le_of_lt h.box.lt) (fun i hi => by rw [show i = b from hi]; exact Nat.le_refl _), ⟨h.cut.mem, ⟨h.cut.dead.1, Nat.le_trans hk h.cut.dead.2⟩, h.cut.incs⟩⟩
theorem Sv.incs (h : Sv w0 w b xo x V) (hk : 30 ≤ x.ir) : Sv w0 (w.setCell ⟨b, 4, none⟩ (.slice x.iA 30 x.ic)) b xo { x with ir := 30 } { V with incs := V.incs.take 30 } := by
  have e : Mod (· = b) w (w.setCell ⟨b, 4, none⟩ (.slice x.iA 30 x.ic)) := mod_cell w ⟨b, 4, none⟩ _
  exact ⟨h.size, ⟨h.org.nodes, h.org.epoch, h.org.mem, h.org.dead, h.org.incs.first hk⟩, h.box.put 4 _ _ rfl, h.res.kept e (by omega), e.below h.below (Nat.le_of_lt h.box.lt) (fun i hi => by rw [show i = b from hi]; exact Nat.le_refl _), ⟨h.cut.mem, h.cut.dead, ⟨h.cut.incs.1, Nat.le_trans hk h.cut.incs.2⟩⟩⟩
theorem Sv.mem1 (h : Sv w0 w b xo x V) (hk : 30 ≤ x.mn) : ∃ x' V', Sv w0 (w.setCell ⟨b, 2, none⟩ (.slice x.mA 30 x.mc)) b xo x' V' ∧ x'.mn ≤ 30 ∧ x'.mn ≤ x.mn ∧ x'.dn ≤ x.dn ∧ x'.ir ≤ x.ir := ⟨_, _, h.mem hk, Nat.le_refl _, hk, Nat.le_refl _, Nat.le_refl _⟩
theorem Sv.dead1 (h : Sv w0 w b xo x V) (hk : 30 ≤ x.dn) : ∃ x' V', Sv w0 (w.setCell ⟨b, 3, none⟩ (.slice x.dA 30 x.dc)) b xo x' V' ∧ x'.dn ≤ 30 ∧ x'.mn ≤ x.mn ∧ x'.dn ≤ x.dn ∧ x'.ir ≤ x.ir := ⟨_, _, h.dead hk, Nat.le_refl _, Nat.le_refl _, hk, Nat.le_refl _⟩
theorem Sv.incs1 (h : Sv w0 w b xo x V) (hk : 30 ≤ x.ir) : ∃ x' V', Sv w0 (w.setCell ⟨b, 4, none⟩ (.slice x.iA 30 x.ic)) b xo x' V' ∧ x'.ir ≤ 30 ∧ x'.mn ≤ x.mn ∧ x'.dn ≤ x.dn ∧ x'.ir ≤ x.ir := ⟨_, _, h.incs hk, Nat.le_refl _, Nat.le_refl _, Nat.le_refl _, hk⟩
theorem Sv.tell (h : Sv w0 w b xo x V) : IsV (setV w (b + 1) x) x V ∧ Below w0.heap.size w0 (setV w (b + 1) x) := by
  have e := setV_mod w (b + 1) x
  have hB : Below w0.heap.size w0 (setV w (b + 1) x) := by
    rw [h.size]
    exact e.below h.below (Nat.le_of_lt h.box.lt) (fun i hi => by rw [show i = b + 1 from hi]; omega)
  exact ⟨h.org.below hB, hB⟩
end
set_option maxRecDepth 100000 in
set_option maxHeartbeats 4000000 in
theorem small_any (w : World) (x : Vx) (V : Vw) (h : IsV w x V) :
    Calls Try.prog 6 #[vV x] w fun e w' => ∃ x', e = .returned (vV x') ∧ ∃ V', IsV w' x' V' ∧ V'.mem.length ≤ 30 ∧ V'.dead.length ≤ 30 ∧ V'.incs.length ≤ 30 ∧ Below w.heap.size w w' ∧ Cut3 x x' := by
  go_enter Try.func6, Try.ntmps6
  go_upto_region 1 with (fail)
  obtain ⟨w1, Hw1⟩ : ∃ w1, Hid ((w.alloc (.cells (vC x) 25)).alloc (.cells (vC noVx) 25) = w1) := ⟨_, Lib.hid rfl⟩
  obtain ⟨b, Hb⟩ : ∃ b, Hid (w.heap.size = b) := ⟨_, Lib.hid rfl⟩
  have HA : Hid (BoxV w1 b x) := Lib.hid (by rw [← Hw1.out, ← Hb.out]; exact (BoxV.new w x).below ((Below.refl _ _).alloc (Nat.le_refl _) _))
  have HR : Hid (BoxV w1 (b + 1) noVx) := Lib.hid (by
    have := BoxV.new (w.alloc (.cells (vC x) 25)) noVx
    rw [Hw1.out] at this
    simpa [Hb.out] using this)
  have HB1 : Hid (Below b w w1) := Lib.hid (by rw [← Hb.out, ← Hw1.out]; exact balloc ((Below.refl _ _).alloc (Nat.le_refl _) _) _)
  have HV1 : Hid (IsV w1 x V) := Lib.hid (h.below (by rw [Hb.out]; exact HB1.out))
  have Hh := Lib.hid h
  clear h
  rw [show ((w.alloc (.cells #[.int .i64 x.nodes, .int .i64 x.epoch, .slice x.mA x.mn x.mc, .slice x.dA x.dn x.dc, .slice x.iA x.ir x.ic] 25)).alloc (.cells #[.int .i64 0, .int .i64 0, .slice none 0 0, .slice none 0 0, .slice none 0 0] 25)) = w1 from Hw1.out, Hb.out]
  obtain ⟨v0, v1, v2, v3, v4⟩ := HA.out.cells
  clear v0 v1 v2 v3 v4
  have HS : Hid (Sv w w1 b x x V) := Lib.hid ⟨Hb.out, Hh.out, HA.out, HR.out, HB1.out, ⟨⟨rfl, Nat.le_refl _⟩, ⟨rfl, Nat.le_refl _⟩, ⟨rfl, Nat.le_refl _⟩⟩⟩
  by_cases a0 : (30 : Int) < (x.mn : Int)
  · obtain ⟨g0, o0, e0, _, _⟩ := HS.out.org.mem.cells (by omega)
    have z0 := HS.out.org.mem.le
    have q0 : (x.mc : Int) ≤ 9223372036854775807 := by have := HS.out.org.mem.max; unfold maxLen at this; omega
    obtain ⟨x1, V1, h0, b01, b02, b03, b04⟩ := HS.out.mem1 (by omega)
    obtain ⟨v0, v1, v2, v3, v4⟩ := HS.out.box.cells
    have gf := HS.out.box.free 2
    rw [e0] at v2 h0
    have HS1 := Lib.hid h0
    clear h0 e0
    go_upto_region 3 with (fail)
    clear v0 v1 v2 v3 v4 gf q0
    by_cases a1 : (30 : Int) < (x1.dn : Int)
    · obtain ⟨g1, o1, e1, _, _⟩ := HS1.out.org.dead.cells (by omega)
      have z1 := HS1.out.org.dead.le
      have q1 : (x1.dc : Int) ≤ 9223372036854775807 := by have := HS1.out.org.dead.max; unfold maxLen at this; omega
      obtain ⟨x2, V2, h1, b11, b12, b13, b14⟩ := HS1.out.dead1 (by omega)
      obtain ⟨v0, v1, v2, v3, v4⟩ := HS1.out.box.cells
      have gf := HS1.out.box.free 3
      rw [e1] at v3 h1
      have HS2 := Lib.hid h1
      clear h1 e1
      go_upto_region 5 with (fail)
      clear v0 v1 v2 v3 v4 gf q1
      by_cases a2 : (30 : Int) < (x2.ir : Int)
      · obtain ⟨g2, o2, e2, _, _⟩ := HS2.out.org.incs.cells (by omega)
        have z2 := HS2.out.org.incs.le
        have q2 : (x2.ic : Int) ≤ 9223372036854775807 := by have := HS2.out.org.incs.max; unfold maxLen at this; omega
        obtain ⟨x3, V3, h2, b21, b22, b23, b24⟩ := HS2.out.incs1 (by omega)
        obtain ⟨v0, v1, v2, v3, v4⟩ := HS2.out.box.cells
        have gf := HS2.out.box.free 4
        rw [e2] at v4 h2
        have HS3 := Lib.hid h2
        clear h2 e2
        go_upto_region 7 with (fail)
        clear v0 v1 v2 v3 v4 gf q2
        have k0 := HS3.out.org.mem.length
        have k1 := HS3.out.org.dead.length
        have k2 := HS3.out.org.incs.length
        have K : Hid (V3.mem.length ≤ 30 ∧ V3.dead.length ≤ 30 ∧ V3.incs.length ≤ 30) := Lib.hid ⟨by omega, by omega, by omega⟩
        clear k0 k1 k2
        obtain ⟨v0, v1, v2, v3, v4⟩ := HS3.out.box.cells
        obtain ⟨r0, r1, r2, r3, r4⟩ := HS3.out.res.cells
        have f0 := HS3.out.res.free 0
        have f1 := HS3.out.res.free 1
        have f2 := HS3.out.res.free 2
        have f3 := HS3.out.res.free 3
        have f4 := HS3.out.res.free 4
        go_wp2
        clear v0 v1 v2 v3 v4 r0 r1 r2 r3 r4 f0 f1 f2 f3 f4
        obtain ⟨s0, s1, s2, s3, s4⟩ := (setV_box HS3.out.res x3).cells
        exact bodyPost_ret (v := vV x3) (by simp [results, Try.results6, go_sem, s0, s1, s2, s3, s4]) rfl ⟨x3, rfl, V3, HS3.out.tell.1, K.out.1, K.out.2.1, K.out.2.2, HS3.out.tell.2, HS3.out.cut⟩
      · obtain ⟨v0, v1, v2, v3, v4⟩ := HS2.out.box.cells
        go_upto_region 7 with (fail)
        clear v0 v1 v2 v3 v4
        have k0 := HS2.out.org.mem.length
        have k1 := HS2.out.org.dead.length
        have k2 := HS2.out.org.incs.length
        have K : Hid (V2.mem.length ≤ 30 ∧ V2.dead.length ≤ 30 ∧ V2.incs.length ≤ 30) := Lib.hid ⟨by omega, by omega, by omega⟩
        clear k0 k1 k2
        obtain ⟨v0, v1, v2, v3, v4⟩ := HS2.out.box.cells
        obtain ⟨r0, r1, r2, r3, r4⟩ := HS2.out.res.cells
        have f0 := HS2.out.res.free 0
        have f1 := HS2.out.res.free 1
        have f2 := HS2.out.res.free 2
        have f3 := HS2.out.res.free 3
        have f4 := HS2.out.res.free 4
        go_wp2
        clear v0 v1 v2 v3 v4 r0 r1 r2 r3 r4 f0 f1 f2 f3 f4
        obtain ⟨s0, s1, s2, s3, s4⟩ := (setV_box HS2.out.res x2).cells
        exact bodyPost_ret (v := vV x2) (by simp [results, Try.results6, go_sem, s0, s1, s2, s3, s4]) rfl ⟨x2, rfl, V2, HS2.out.tell.1, K.out.1, K.out.2.1, K.out.2.2, HS2.out.tell.2, HS2.out.cut⟩
    · obtain ⟨v0, v1, v2, v3, v4⟩ := HS1.out.box.cells
      go_upto_region 5 with (fail)
      clear v0 v1 v2 v3 v4
      by_cases a2 : (30 : Int) < (x1.ir : Int)
      · obtain ⟨g2, o2, e2, _, _⟩ := HS1.out.org.incs.cells (by omega)
        have z2 := HS1.out.org.incs.le
        have q2 : (x1.ic : Int) ≤ 9223372036854775807 := by have := HS1.out.org.incs.max; unfold maxLen at this; omega
        obtain ⟨x3, V3, h2, b21, b22, b23, b24⟩ := HS1.out.incs1 (by omega)
        obtain ⟨v0, v1, v2, v3, v4⟩ := HS1.out.box.cells
        have gf := HS1.out.box.free 4
        rw [e2] at v4 h2
        have HS3 := Lib.hid h2
        clear h2 e2
        go_upto_region 7 with (fail)
        clear v0 v1 v2 v3 v4 gf q2
        have k0 := HS3.out.org.mem.length
        have k1 := HS3.out.org.dead.length
        have k2 := HS3.out.org.incs.length
        have K : Hid (V3.mem.length ≤ 30 ∧ V3.dead.length ≤ 30 ∧ V3.incs.length ≤ 30) := Lib.hid ⟨by omega, by omega, by omega⟩
        clear k0 k1 k2
        obtain ⟨v0, v1, v2, v3, v4⟩ := HS3.out.box.cells
        obtain ⟨r0, r1, r2, r3, r4⟩ := HS3.out.res.cells
        have f0 := HS3.out.res.free 0
        have f1 := HS3.out.res.free 1
        have f2 := HS3.out.res.free 2
        have f3 := HS3.out.res.free 3
        have f4 := HS3.out.res.free 4
        go_wp2
        clear v0 v1 v2 v3 v4 r0 r1 r2 r3 r4 f0 f1 f2 f3 f4
        obtain ⟨s0, s1, s2, s3, s4⟩ := (setV_box HS3.out.res x3).cells
        exact bodyPost_ret (v := vV x3) (by simp [results, Try.results6, go_sem, s0, s1, s2, s3, s4]) rfl ⟨x3, rfl, V3, HS3.out.tell.1, K.out.1, K.out.2.1, K.out.2.2, HS3.out.tell.2, HS3.out.cut⟩
      · obtain ⟨v0, v1, v2, v3, v4⟩ := HS1.out.box.cells
        go_upto_region 7 with (fail)
        clear v0 v1 v2 v3 v4
        have k0 := HS1.out.org.mem.length
        have k1 := HS1.out.org.dead.length
        have k2 := HS1.out.org.incs.length
        have K : Hid (V1.mem.length ≤ 30 ∧ V1.dead.length ≤ 30 ∧ V1.incs.length ≤ 30) := Lib.hid ⟨by omega, by omega, by omega⟩
        clear k0 k1 k2
        obtain ⟨v0, v1, v2, v3, v4⟩ := HS1.out.box.cells
        obtain ⟨r0, r1, r2, r3, r4⟩ := HS1.out.res.cells
        have f0 := HS1.out.res.free 0
        have f1 := HS1.out.res.free 1
        have f2 := HS1.out.res.free 2
        have f3 := HS1.out.res.free 3
        have f4 := HS1.out.res.free 4
        go_wp2
        clear v0 v1 v2 v3 v4 r0 r1 r2 r3 r4 f0 f1 f2 f3 f4
        obtain ⟨s0, s1, s2, s3, s4⟩ := (setV_box HS1.out.res x1).cells
        exact bodyPost_ret (v := vV x1) (by simp [results, Try.results6, go_sem, s0, s1, s2, s3, s4]) rfl ⟨x1, rfl, V1, HS1.out.tell.1, K.out.1, K.out.2.1, K.out.2.2, HS1.out.tell.2, HS1.out.cut⟩
  · obtain ⟨v0, v1, v2, v3, v4⟩ := HS.out.box.cells
    go_upto_region 3 with (fail)
    clear v0 v1 v2 v3 v4
    by_cases a1 : (30 : Int) < (x.dn : Int)
    · obtain ⟨g1, o1, e1, _, _⟩ := HS.out.org.dead.cells (by omega)
      have z1 := HS.out.org.dead.le
      have q1 : (x.dc : Int) ≤ 9223372036854775807 := by have := HS.out.org.dead.max; unfold maxLen at this; omega
      obtain ⟨x2, V2, h1, b11, b12, b13, b14⟩ := HS.out.dead1 (by omega)
      obtain ⟨v0, v1, v2, v3, v4⟩ := HS.out.box.cells
      have gf := HS.out.box.free 3
      rw [e1] at v3 h1
      have HS2 := Lib.hid h1
      clear h1 e1
      go_upto_region 5 with (fail)
      clear v0 v1 v2 v3 v4 gf q1
      by_cases a2 : (30 : Int) < (x2.ir : Int)
      · obtain ⟨g2, o2, e2, _, _⟩ := HS2.out.org.incs.cells (by omega)
        have z2 := HS2.out.org.incs.le
        have q2 : (x2.ic : Int) ≤ 9223372036854775807 := by have := HS2.out.org.incs.max; unfold maxLen at this; omega
        obtain ⟨x3, V3, h2, b21, b22, b23, b24⟩ := HS2.out.incs1 (by omega)
        obtain ⟨v0, v1, v2, v3, v4⟩ := HS2.out.box.cells
        have gf := HS2.out.box.free 4
        rw [e2] at v4 h2
        have HS3 := Lib.hid h2
        clear h2 e2
        go_upto_region 7 with (fail)
        clear v0 v1 v2 v3 v4 gf q2
        have k0 := HS3.out.org.mem.length
        have k1 := HS3.out.org.dead.length
        have k2 := HS3.out.org.incs.length
        have K : Hid (V3.mem.length ≤ 30 ∧ V3.dead.length ≤ 30 ∧ V3.incs.length ≤ 30) := Lib.hid ⟨by omega, by omega, by omega⟩
        clear k0 k1 k2
        obtain ⟨v0, v1, v2, v3, v4⟩ := HS3.out.box.cells
        obtain ⟨r0, r1, r2, r3, r4⟩ := HS3.out.res.cells
        have f0 := HS3.out.res.free 0
        have f1 := HS3.out.res.free 1
        have f2 := HS3.out.res.free 2
        have f3 := HS3.out.res.free 3
        have f4 := HS3.out.res.free 4
        go_wp2
        clear v0 v1 v2 v3 v4 r0 r1 r2 r3 r4 f0 f1 f2 f3 f4
        obtain ⟨s0, s1, s2, s3, s4⟩ := (setV_box HS3.out.res x3).cells
        exact bodyPost_ret (v := vV x3) (by simp [results, Try.results6, go_sem, s0, s1, s2, s3, s4]) rfl ⟨x3, rfl, V3, HS3.out.tell.1, K.out.1, K.out.2.1, K.out.2.2, HS3.out.tell.2, HS3.out.cut⟩
      · obtain ⟨v0, v1, v2, v3, v4⟩ := HS2.out.box.cells
        go_upto_region 7 with (fail)
        clear v0 v1 v2 v3 v4
        have k0 := HS2.out.org.mem.length
        have k1 := HS2.out.org.dead.length
        have k2 := HS2.out.org.incs.length
        have K : Hid (V2.mem.length ≤ 30 ∧ V2.dead.length ≤ 30 ∧ V2.incs.length ≤ 30) := Lib.hid ⟨by omega, by omega, by omega⟩
        clear k0 k1 k2
        obtain ⟨v0, v1, v2, v3, v4⟩ := HS2.out.box.cells
        obtain ⟨r0, r1, r2, r3, r4⟩ := HS2.out.res.cells
        have f0 := HS2.out.res.free 0
        have f1 := HS2.out.res.free 1
        have f2 := HS2.out.res.free 2
        have f3 := HS2.out.res.free 3
        have f4 := HS2.out.res.free 4
        go_wp2
        clear v0 v1 v2 v3 v4 r0 r1 r2 r3 r4 f0 f1 f2 f3 f4
        obtain ⟨s0, s1, s2, s3, s4⟩ := (setV_box HS2.out.res x2).cells
        exact bodyPost_ret (v := vV x2) (by simp [results, Try.results6, go_sem, s0, s1, s2, s3, s4]) rfl ⟨x2, rfl, V2, HS2.out.tell.1, K.out.1, K.out.2.1, K.out.2.2, HS2.out.tell.2, HS2.out.cut⟩
    · obtain ⟨v0, v1, v2, v3, v4⟩ := HS.out.box.cells
      go_upto_region 5 with (fail)
      clear v0 v1 v2 v3 v4
      by_cases a2 : (30 : Int) < (x.ir : Int)
      · obtain ⟨g2, o2, e2, _, _⟩ := HS.out.org.incs.cells (by omega)
        have z2 := HS.out.org.incs.le
        have q2 : (x.ic : Int) ≤ 9223372036854775807 := by have := HS.out.org.incs.max; unfold maxLen at this; omega
        obtain ⟨x3, V3, h2, b21, b22, b23, b24⟩ := HS.out.incs1 (by omega)
        obtain ⟨v0, v1, v2, v3, v4⟩ := HS.out.box.cells
        have gf := HS.out.box.free 4
        rw [e2] at v4 h2
        have HS3 := Lib.hid h2
        clear h2 e2
        go_upto_region 7 with (fail)
        clear v0 v1 v2 v3 v4 gf q2
        have k0 := HS3.out.org.mem.length
        have k1 := HS3.out.org.dead.length
        have k2 := HS3.out.org.incs.length
        have K : Hid (V3.mem.length ≤ 30 ∧ V3.dead.length ≤ 30 ∧ V3.incs.length ≤ 30) := Lib.hid ⟨by omega, by omega, by omega⟩
        clear k0 k1 k2
        obtain ⟨v0, v1, v2, v3, v4⟩ := HS3.out.box.cells
        obtain ⟨r0, r1, r2, r3, r4⟩ := HS3.out.res.cells
        have f0 := HS3.out.res.free 0
        have f1 := HS3.out.res.free 1
        have f2 := HS3.out.res.free 2
        have f3 := HS3.out.res.free 3
        have f4 := HS3.out.res.free 4
        go_wp2
        clear v0 v1 v2 v3 v4 r0 r1 r2 r3 r4 f0 f1 f2 f3 f4
        obtain ⟨s0, s1, s2, s3, s4⟩ := (setV_box HS3.out.res x3).cells
        exact bodyPost_ret (v := vV x3) (by simp [results, Try.results6, go_sem, s0, s1, s2, s3, s4]) rfl ⟨x3, rfl, V3, HS3.out.tell.1, K.out.1, K.out.2.1, K.out.2.2, HS3.out.tell.2, HS3.out.cut⟩
      · obtain ⟨v0, v1, v2, v3, v4⟩ := HS.out.box.cells
        go_upto_region 7 with (fail)
        clear v0 v1 v2 v3 v4
        have k0 := HS.out.org.mem.length
        have k1 := HS.out.org.dead.length
        have k2 := HS.out.org.incs.length
        have K : Hid (V.mem.length ≤ 30 ∧ V.dead.length ≤ 30 ∧ V.incs.length ≤ 30) := Lib.hid ⟨by omega, by omega, by omega⟩
        clear k0 k1 k2
        obtain ⟨v0, v1, v2, v3, v4⟩ := HS.out.box.cells
        obtain ⟨r0, r1, r2, r3, r4⟩ := HS.out.res.cells
        have f0 := HS.out.res.free 0
        have f1 := HS.out.res.free 1
        have f2 := HS.out.res.free 2
        have f3 := HS.out.res.free 3
        have f4 := HS.out.res.free 4
        go_wp2
        clear v0 v1 v2 v3 v4 r0 r1 r2 r3 r4 f0 f1 f2 f3 f4
        obtain ⟨s0, s1, s2, s3, s4⟩ := (setV_box HS.out.res x).cells
        exact bodyPost_ret (v := vV x) (by simp [results, Try.results6, go_sem, s0, s1, s2, s3, s4]) rfl ⟨x, rfl, V, HS.out.tell.1, K.out.1, K.out.2.1, K.out.2.2, HS.out.tell.2, HS.out.cut⟩
end Go.Proofs.Ytnbhjehaecifcaa
