/- An ask as an argument: how many from which zone on, which sectors; at this translation. -/
import Derived.Test.YtoakjcmhmlngfaaOy17
import Derived.Test.YtoakjcmhmlngfaaRu17
namespace Go.Proofs.Ytoakjcmhmlngfaa
open Go.RowKit Go.ChangeShapes Go.WideShapes Go.ChangeAt

theorem isG_ints17 {H : Type} {enc : TypeId × Value → H} {W : World} {fuel : Nat} {cs : List Value} {x : DataW H × List MemPlace} (h : DataW.trod enc Try.prog W 0 (fun _ => true) true fuel 30 cs = some x) :
    ∃ A n c l, cs = [.slice A n c] ∧ IsG W 1 encI A n l ∧ n ≤ c ∧ c ≤ maxLen ∧ ∀ x ∈ l, (Lit.int .i64 x).wf = true := by
  rcases open_ints Try.underlying30 Try.underlying3 (by kernel_rfl) h with ⟨hcs, _⟩ | ⟨a, l, c, zs, hcs, _, hl, hm, hz, _, hcell, hwz⟩
  · exact ⟨none, 0, 0, [], hcs, ⟨rfl, Nat.zero_le _, fun h => absurd h (Nat.lt_irrefl _)⟩, Nat.le_refl _, Nat.zero_le _, fun x hx => by cases hx⟩
  · have hz' : zs.length = c := by simpa using hz
    by_cases h0 : 0 < l
    · obtain ⟨b, off, rfl, hc⟩ := ints_at hcell (by omega)
      refine ⟨some ⟨b, off, none⟩, l, c, zs.take l, hcs, ⟨by simp; omega, Nat.le_trans hl hm, fun _ => ⟨b, off, rfl, lt_of_cell (hc 0 (by omega)), fun i z j u hi hj => ?_⟩⟩, hl, hm, fun x hx => hwz x (List.mem_of_mem_take hx)⟩
      have hil : i < l := by have := (List.getElem?_eq_some_iff.1 hi).1; simp at this; omega
      match j, hj with
      | 0, hj =>
        simp [encI] at hj
        rw [Nat.mul_one, Nat.add_zero, hc i (by omega)]
        rw [List.getElem?_take, if_pos hil] at hi
        simp [List.getD, hi, hj]
      | j + 1, hj => simp [encI] at hj
    · exact ⟨some a, l, c, [], hcs, ⟨by simp; omega, Nat.le_trans hl hm, fun h => absurd h h0⟩, hl, hm, fun x hx => by cases hx⟩
set_option maxRecDepth 100000 in
theorem open_ask {H : Type} {enc : TypeId × Value → H} {W : World} {v : Value} {d : DataW H} {p : List MemPlace} {base : Nat}
    (hv : Value.okWide Try.prog W .any base 32 v) (h : DataW.Trod enc Try.prog W 0 (fun _ => true) true 32 v d p) :
    ∃ (z k : Int) (xs : List Int) (A : Option Addr) (n c : Nat), v = .agg #[.int .i64 z, .int .i64 k, .slice A n c] ∧ IsG W 1 encI A n xs ∧ n ≤ c ∧ c ≤ maxLen ∧ (∀ x ∈ xs, (Lit.int .i64 x).wf = true) ∧ (Lit.int .i64 z).wf = true ∧ (Lit.int .i64 k).wf = true := by
  obtain ⟨cs, rfl, hsz⟩ := okWide_struct Try.underlying32 hv
  obtain ⟨fuel, hf⟩ := h
  obtain ⟨xs, n, _, _, hl, hlen, hf⟩ := DataW.trod_struct Try.underlying32 hf
  have k3 : Try.prog.cellsOf 3 = 1 := by kernel_rfl
  have k23 : Try.prog.cellsOf 30 = 1 := by kernel_rfl
  have hC : Try.prog.cellsOf 32 = 3 := by kernel_rfl
  rw [hC] at hsz
  obtain ⟨l⟩ := cs
  have hx : ∀ i, i < 3 → ∃ y, xs[i]? = some y := fun i hi => ⟨_, List.getElem?_eq_getElem (by rw [hlen]; exact hi)⟩
  match l, hsz with
  | [a0, a1, a2], _ =>
    have h0 : DataW.trod enc Try.prog W 0 (fun _ => true) true n 3 (List.take (Try.prog.cellsOf 3) [a0, a1, a2]) = xs[0]? := hf 0 _ rfl
    have h1 : DataW.trod enc Try.prog W 0 (fun _ => true) true n 3 (List.take (Try.prog.cellsOf 3) [a1, a2]) = xs[1]? := hf 1 _ rfl
    have h2 : DataW.trod enc Try.prog W 0 (fun _ => true) true n 30 (List.take (Try.prog.cellsOf 30) [a2]) = xs[2]? := hf 2 _ rfl
    rw [k3] at h0 h1
    rw [k23] at h2
    obtain ⟨y0, e0⟩ := hx 0 (by omega)
    obtain ⟨y1, e1⟩ := hx 1 (by omega)
    obtain ⟨y2, e2⟩ := hx 2 (by omega)
    obtain ⟨n0, p0, _, g0⟩ := DataW.trod_int Try.underlying3 (h0.trans e0)
    obtain ⟨n1, p1, _, g1⟩ := DataW.trod_int Try.underlying3 (h1.trans e1)
    obtain ⟨A3, m3, c3, l3, p2, q3, r3, s3, t3⟩ := isG_ints17 (h2.trans e2)
    simp only [List.take_succ_cons, List.take_zero, List.cons.injEq, and_true] at p0 p1 p2
    subst p0 p1 p2
    exact ⟨n0, n1, l3, A3, m3, c3, rfl, q3, r3, s3, t3, g0, g1⟩
end Go.Proofs.Ytoakjcmhmlngfaa
