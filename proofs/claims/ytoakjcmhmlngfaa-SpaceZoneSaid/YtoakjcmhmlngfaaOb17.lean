/- Asks as an argument: where zones and numbers of each one lie; at this translation. -/
import Derived.Test.YtoakjcmhmlngfaaOa17
import Derived.Test.YtoakjcmhmlngfaaPq17
import Derived.Deep.Fields
import Derived.Deep.Slices
import Derived.ChangeSame
namespace Go.Proofs.Ytoakjcmhmlngfaa
open Go.RowKit Go.ChangeShapes Go.WideShapes Go.ChangeAt Go.Deep


section
variable {H : Type} {enc : TypeId × Value → H} {P : Program} {w : World} {base : Nat} {spare : Nat → Bool} {held : Bool}
theorem open_fields {t e : TypeId} {fs : Array Field} {fuel : Nat} {cs : List Value} {x : DataW H × List MemPlace} (ht : P.underlying t = some (.slice e)) (he : P.underlying e = some (.struct fs))
    (hone : oneCellFields P fs = true) (hC : P.cellsOf e = fs.size) (h : DataW.trod enc P w base spare held fuel t cs = some x) :
    (cs = [.slice none 0 0]) ∨
    ∃ (a : Addr) (len cap m : Nat), cs = [.slice (some a) len cap] ∧ len ≤ cap ∧ cap ≤ maxLen ∧ m = (if spare a.block then cap else len) ∧
      ∀ i, i < m → ∃ (n : Nat), ∀ (j : Nat) (f : Field), fs[j]? = some f → ∃ (v : Value) (y : DataW H × List MemPlace), w.cell? (a.add (i * fs.size + j)) = some v ∧ DataW.trod enc P w base spare held n f.type [v] = some y := by
  rcases open_slice ht h with h0 | ⟨a, len, cap, m, n, D, Pl, hcs, hb, hl, hm, hmm, hx, hi⟩
  · exact .inl h0.1
  · refine .inr ⟨a, len, cap, m, hcs, hl, hm, hmm, fun i him => ?_⟩
    obtain ⟨cs', hc, ht'⟩ := hi i him
    rw [hC] at hc
    obtain ⟨ys, n', hn', hy, hlen, hyl, hf⟩ := DataW.trod_struct he ht'
    obtain ⟨_, hcl, hat⟩ := World.cells?_some hc
    refine ⟨n', fun j f hj => ?_⟩
    obtain ⟨ho, hk⟩ := hone_of hone j f hj
    have hjl : j < fs.size := (Array.getElem?_eq_some_iff.1 hj).1
    have hcell := hat j hjl
    have hv : cs'[j]? = some (cs'[j]'(by omega)) := List.getElem?_eq_getElem (by omega)
    have h1 := hf j f hj
    rw [ho, hk] at h1
    have hone' : (cs'.drop j).take 1 = [cs'[j]'(by omega)] := by
      rw [List.drop_eq_getElem_cons (by omega)]
      rfl
    rw [hone'] at h1
    have hys : ys[j]? = some (ys[j]'(by omega)) := List.getElem?_eq_getElem (by omega)
    refine ⟨_, _, ?_, h1.trans hys⟩
    rw [← Go.Deep.add_add, hcell, hv]
end

/-- Asks lie so, each in three cells. -/
structure IsAsks (w : World) (a : Option Addr) (len : Nat) (zk : Nat → Int × Int) : Prop where
  max : len ≤ maxLen
  cells : 0 < len → ∃ b off, a = some ⟨b, off, none⟩ ∧ ∀ i, i < len → w.cell? ⟨b, off + i * 3, none⟩ = some (.int .i64 (zk i).1) ∧ w.cell? ⟨b, off + i * 3 + 1, none⟩ = some (.int .i64 (zk i).2)
theorem IsAsks.below {w w' : World} {a : Option Addr} {len : Nat} {zk : Nat → Int × Int} (h : IsAsks w a len zk) (m : Below w.heap.size w w') : IsAsks w' a len zk := by
  refine ⟨h.max, fun h0 => ?_⟩
  obtain ⟨b, off, rfl, hc⟩ := h.cells h0
  refine ⟨b, off, rfl, fun i hi => ?_⟩
  obtain ⟨c0, c1⟩ := hc i hi
  exact ⟨(m.cell (p := ⟨b, off + i * 3, none⟩) (lt_of_cell c0)).trans c0, (m.cell (p := ⟨b, off + i * 3 + 1, none⟩) (lt_of_cell c1)).trans c1⟩
set_option maxRecDepth 100000 in
theorem opens_asks {H : Type} {enc : TypeId × Value → H} {W : World} {v : Value} {d : DataW H} {p : List MemPlace} {base : Nat}
    (hv : Value.okWide Try.prog W .any base 22 v) (h : DataW.Trod enc Try.prog W 0 (fun _ => true) true 22 v d p) :
    ∃ a len cap zk, v = .slice a len cap ∧ IsAsks W a len zk ∧ len ≤ cap := by
  obtain ⟨a, len, cap, rfl⟩ := okWide_slice Try.underlying22 hv
  obtain ⟨fuel, hf⟩ := h
  rcases open_fields Try.underlying22 Try.underlying32 (by kernel_rfl) (by kernel_rfl) hf with hcs | ⟨x, l, c, m, hcs, hl, hm, hmm, hel⟩
  · simp [Value.cells] at hcs
    obtain ⟨rfl, rfl, rfl⟩ := hcs
    exact ⟨none, 0, 0, fun _ => (0, 0), rfl, ⟨Nat.zero_le _, fun h => by omega⟩, Nat.le_refl _⟩
  · simp [Value.cells] at hcs
    obtain ⟨rfl, rfl, rfl⟩ := hcs
    have hmm' : m = cap := by simpa using hmm
    by_cases h0 : 0 < len
    · have hspot : x.spot = none := by
        obtain ⟨n0, h1⟩ := hel 0 (by omega)
        obtain ⟨v0, y0, hc0, _⟩ := h1 0 _ rfl
        have := World.cell?_spot hc0
        simpa [Addr.add] using this
      obtain ⟨b, off, spot⟩ := x
      simp only at hspot
      subst hspot
      have key : ∀ i, i < len → ∃ v : Int × Int, W.cell? ⟨b, off + i * 3, none⟩ = some (.int .i64 v.1) ∧ W.cell? ⟨b, off + i * 3 + 1, none⟩ = some (.int .i64 v.2) := fun i hi => by
        obtain ⟨n0, h1⟩ := hel i (by omega)
        have ad : ∀ j, (⟨b, off, none⟩ : Addr).add (i * 3 + j) = ⟨b, off + i * 3 + j, none⟩ := fun j => by rw [Go.WideShapes.add_plain, Nat.add_assoc]
        obtain ⟨v0, y0, c0, t0⟩ := h1 0 _ rfl
        obtain ⟨v1, y1, c1, t1⟩ := h1 1 _ rfl
        obtain ⟨n0, e0, _, _⟩ := DataW.trod_int Try.underlying3 t0
        obtain ⟨n1, e1, _, _⟩ := DataW.trod_int Try.underlying3 t1
        simp only [List.cons.injEq, and_true] at e0 e1
        subst e0 e1
        change W.cell? ((⟨b, off, none⟩ : Addr).add (i * 3 + 0)) = _ at c0
        change W.cell? ((⟨b, off, none⟩ : Addr).add (i * 3 + 1)) = _ at c1
        rw [ad] at c0 c1
        exact ⟨(n0, n1), c0, c1⟩
      refine ⟨some ⟨b, off, none⟩, len, cap, fun i => if hi : i < len then (key i hi).choose else (0, 0), rfl, ⟨Nat.le_trans hl hm, fun _ => ⟨b, off, rfl, fun i hi => ?_⟩⟩, hl⟩
      rw [dif_pos hi]
      exact (key i hi).choose_spec
    · exact ⟨some x, len, cap, fun _ => (0, 0), rfl, ⟨Nat.le_trans hl hm, fun h => absurd h h0⟩, hl⟩
theorem tmod_bd (a : Int) (m : Nat) (hm : 0 < m) : -(m : Int) < a.tmod m ∧ a.tmod m < m := by
  have h := Int.natAbs_tmod a m
  have h2 : (a.tmod m).natAbs < m := by rw [h]; exact Nat.mod_lt _ (by simpa using hm)
  omega
theorem and_mask17 (x : Int) (m : Nat) (hm : m ≤ 9223372036854775807) : ∃ k : Nat, Hid (bits .and .i64 x (m : Int) = (k : Int)) ∧ k ≤ m := by
  have h2 : (BitVec.ofInt 64 x &&& BitVec.ofInt 64 (m : Int)).toNat ≤ m := by
    rw [BitVec.toNat_and]
    have e : (BitVec.ofInt 64 (m : Int)).toNat = m := by simp; omega
    rw [e]
    exact Nat.and_le_right
  refine ⟨(BitVec.ofInt 64 x &&& BitVec.ofInt 64 (m : Int)).toNat, Lib.hid ?_, h2⟩
  show IntKind.i64.wrap ((BitVec.ofInt 64 x &&& BitVec.ofInt 64 (m : Int)).toNat : Int) = _
  rw [IntWalk.i64_in _ (by omega)]
theorem fresh_right : ∀ n : Nat, n < 101 → rightM (freshL (140 + (n : Int))) (freshM (140 + (n : Int))) = true := by decide +kernel
theorem wf_small (k : Nat) (h : k ≤ 100000) : (Lit.int .i64 (k : Int)).wf = true := by
  simp [Lit.wf, show IntKind.i64.min = -9223372036854775808 from rfl, show IntKind.i64.max = 9223372036854775807 from rfl]
  omega
theorem owe_wf {l : Lay} {M N : List (List UInt8)} {R : List Int} (hM : RightM l M) (h : Owe l M N R) : ∀ x ∈ R, (Lit.int .i64 x).wf = true := by
  intro x hx
  obtain ⟨z, p, s, rfl, hz, _, hp, _, _⟩ := h.free x hx
  have h1 := mul_bds (LayOk.of hM.ok) hz
  have h2 := (LayOk.of hM.ok).fb
  have h3 := zN_of hM.ok
  have h4 : 0 ≤ secT l z p ∧ secT l z p ≤ 100000 := by unfold secT; omega
  obtain ⟨k, hk⟩ := Int.eq_ofNat_of_zero_le h4.1
  rw [hk] at h4 ⊢
  exact wf_small k (by omega)
end Go.Proofs.Ytoakjcmhmlngfaa
