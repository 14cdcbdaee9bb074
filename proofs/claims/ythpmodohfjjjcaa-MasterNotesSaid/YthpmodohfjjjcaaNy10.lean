/- A note that came in by value; two notes that are compared. -/
import Derived.Test.YthpmodohfjjjcaaNx10
import Derived.Test.YthpmodohfjjjcaaArr
import Derived.Deep.Fields
import Derived.Deep.Slices
import Derived.ChangeSame
import Derived.Laws.StructEq
namespace Go.Proofs.Ythpmodohfjjjcaa
open Go.RowKit Go.ChangeShapes Go.WideShapes Go.ChangeAt Go.Deep

theorem ntEq (a b c d e : Int) (w : World) : (binOp .eql 23 (.agg #[.int .i64 a, .int .i64 b, .int .i64 c, .int .i64 d, .int .i64 e]) (.agg #[.int .i64 a, .int .i64 b, .int .i64 c, .int .i64 d, .int .i64 e])).run Try.prog w = .ok (.bool true) w := by
  have hu : Try.prog.underlying 23 = some (.struct (Try.prog.fieldsOf 23)) := by kernel_rfl
  have hp : Try.prog.stoodInHeld 23 = false := by kernel_rfl
  rw [run_eql_struct, run_equalIn_agg _ _ _ _ _ hu hp]
  simp [Program.fieldsOf, Try.underlying23, Try.underlying3, go_sem, part]
set_option maxRecDepth 100000 in
theorem open_note {H : Type} {enc : TypeId × Value → H} {W : World} {v : Value} {d : DataW H} {p : List MemPlace} {base : Nat}
    (hv : Value.okWide Try.prog W .any base 23 v) (h : DataW.Trod enc Try.prog W 0 (fun _ => true) true 23 v d p) :
    ∃ n : Nt, v = ntV n := by
  obtain ⟨cs, rfl, hsz⟩ := okWide_struct Try.underlying23 hv
  obtain ⟨fuel, hf⟩ := h
  obtain ⟨xs, n, _, _, hl, hlen, hf⟩ := DataW.trod_struct Try.underlying23 hf
  have k3 : Try.prog.cellsOf 3 = 1 := by kernel_rfl
  have hC : Try.prog.cellsOf 23 = 5 := by kernel_rfl
  rw [hC] at hsz
  obtain ⟨l⟩ := cs
  have hx : ∀ i, i < 5 → ∃ y, xs[i]? = some y := fun i hi => ⟨_, List.getElem?_eq_getElem (by rw [hlen]; exact hi)⟩
  match l, hsz with
  | [a0, a1, a2, a3, a4], _ =>
    have h0 : DataW.trod enc Try.prog W 0 (fun _ => true) true n 3 (List.take (Try.prog.cellsOf 3) [a0, a1, a2, a3, a4]) = xs[0]? := hf 0 _ rfl
    have h1 : DataW.trod enc Try.prog W 0 (fun _ => true) true n 3 (List.take (Try.prog.cellsOf 3) [a1, a2, a3, a4]) = xs[1]? := hf 1 _ rfl
    have h2 : DataW.trod enc Try.prog W 0 (fun _ => true) true n 3 (List.take (Try.prog.cellsOf 3) [a2, a3, a4]) = xs[2]? := hf 2 _ rfl
    have h3 : DataW.trod enc Try.prog W 0 (fun _ => true) true n 3 (List.take (Try.prog.cellsOf 3) [a3, a4]) = xs[3]? := hf 3 _ rfl
    have h4 : DataW.trod enc Try.prog W 0 (fun _ => true) true n 3 (List.take (Try.prog.cellsOf 3) [a4]) = xs[4]? := hf 4 _ rfl
    rw [k3] at h0 h1 h2 h3 h4
    obtain ⟨y0, e0⟩ := hx 0 (by decide)
    obtain ⟨y1, e1⟩ := hx 1 (by decide)
    obtain ⟨y2, e2⟩ := hx 2 (by decide)
    obtain ⟨y3, e3⟩ := hx 3 (by decide)
    obtain ⟨y4, e4⟩ := hx 4 (by decide)
    rw [e0] at h0
    rw [e1] at h1
    rw [e2] at h2
    rw [e3] at h3
    rw [e4] at h4
    obtain ⟨n0, q0, _, _⟩ := DataW.trod_int Try.underlying3 h0
    obtain ⟨n1, q1, _, _⟩ := DataW.trod_int Try.underlying3 h1
    obtain ⟨n2, q2, _, _⟩ := DataW.trod_int Try.underlying3 h2
    obtain ⟨n3, q3, _, _⟩ := DataW.trod_int Try.underlying3 h3
    obtain ⟨n4, q4, _, _⟩ := DataW.trod_int Try.underlying3 h4
    simp only [List.take, List.cons.injEq, and_true] at q0 q1 q2 q3 q4
    subst q0 q1 q2 q3 q4
    exact ⟨⟨n0, n1, n2, n3, n4⟩, rfl⟩
theorem ints_below {k : IntKind} {w w' : World} {a : Option Addr} {len : Nat} {zs : List Int} (h : IsInts k w a len zs) (b : Below w.heap.size w w') : IsInts k w' a len zs :=
  ⟨h.length, h.max, h.wf, fun h0 => by
    obtain ⟨g, off, e, hc⟩ := h.cells h0
    exact ⟨g, off, e, fun i hi => (b.cell (p := ⟨g, off + i, none⟩) (lt_of_cell (hc 0 h0))).trans (hc i hi)⟩⟩
theorem ints_take {k : IntKind} {w : World} {a : Option Addr} {len : Nat} {zs : List Int} (h : IsInts k w a len zs) {m : Nat} (hm : m ≤ len) : IsInts k w a m (zs.take m) :=
  ⟨by rw [List.length_take, h.length]; omega, Nat.le_trans hm h.max, fun n hn => h.wf n (List.mem_of_mem_take hn), fun h0 => by
    obtain ⟨g, off, e, hc⟩ := h.cells (by omega)
    refine ⟨g, off, e, fun i hi => ?_⟩
    rw [hc i (by omega), List.getD, List.getD, List.getElem?_take_of_lt hi]⟩
theorem opens_ints_cap {H : Type} {enc : TypeId × Value → H} {P : Program} {W : World} {t e : TypeId} {k : IntKind} {v : Value} {base0 fuel : Nat} {held : Bool} {x : DataW H × List MemPlace}
    (ht : P.underlying t = some (.slice e)) (he : P.underlying e = some (.int k)) (hc : P.cellsOf e = 1) (h : DataW.trod enc P W base0 (fun _ => true) held fuel t [v] = some x) :
    ∃ a len cap zs, v = .slice a len cap ∧ IsInts k W a len zs ∧ len ≤ cap := by
  rcases open_ints ht he hc h with ⟨hcs, _⟩ | ⟨x, l, c, zs, hcs, _, hl, hm, hz, _, hcell, hwz⟩
  · simp at hcs
    subst hcs
    exact ⟨none, 0, 0, [], rfl, ⟨rfl, Nat.zero_le _, by simp, by omega⟩, Nat.le_refl _⟩
  · simp at hcs
    subst hcs
    have hz' : zs.length = c := by simpa using hz
    refine ⟨some x, l, c, zs.take l, rfl, ⟨by simp; omega, Nat.le_trans hl hm, fun n hn => hwz n (List.mem_of_mem_take hn), fun h0 => ?_⟩, hl⟩
    obtain ⟨b, off, rfl, hc⟩ := ints_at hcell (by omega)
    refine ⟨b, off, rfl, fun i hi => ?_⟩
    rw [hc i (by omega)]
    simp [List.getD, hi]
theorem opens_intsc {H : Type} {enc : TypeId × Value → H} {P : Program} {W : World} {t e : TypeId} {k : IntKind} {v : Value} {d : DataW H} {p : List MemPlace} {base : Nat}
    (ht : P.underlying t = some (.slice e)) (he : P.underlying e = some (.int k)) (hc : P.cellsOf e = 1) (hv : Value.okWide P W .any base t v) (h : DataW.Trod enc P W 0 (fun _ => true) true t v d p) :
    ∃ a len cap zs, v = .slice a len cap ∧ IsInts k W a len zs ∧ len ≤ cap := by
  obtain ⟨a, len, cap, rfl⟩ := okWide_slice ht hv
  obtain ⟨fuel, hf⟩ := h
  exact opens_ints_cap ht he hc hf
end Go.Proofs.Ythpmodohfjjjcaa
