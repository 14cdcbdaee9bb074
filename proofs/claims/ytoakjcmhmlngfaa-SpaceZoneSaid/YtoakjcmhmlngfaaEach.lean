
/- The bits that are taken, in a row: what package bitmap's Each and the document's Each give; two equal rows are the same. -/
import Derived.Test.YtoakjcmhmlngfaaBits
import Derived.Deep.QuietTactic
import Derived.BigQuiet
namespace Go.Proofs.Ytoakjcmhmlngfaa
open Go.RowKit

def cellsI (zs : List Nat) : List Value := zs.map fun n => Value.int .i64 ((n : Nat) : Int)
theorem cellsI_snoc (zs : List Nat) (n : Nat) : cellsI (zs ++ [n]) = cellsI zs ++ [.int .i64 ((n : Nat) : Int)] := by simp [cellsI]
/-- A row of numbers in memory: numbers from 0 on, all below a bound. -/
def ints (zs : List Nat) : List Int := zs.map fun n => ((n : Nat) : Int)
theorem ints_owned {w : World} {base : Nat} {v : Value} {n : Nat} {zs : List Nat} (h : w.ownsRow base 3 1 v n (cellsI zs)) (hn : n ≤ maxLen) (hw : ∀ z ∈ zs, z ≤ 9223372036854775807) :
    ∃ a cap, v = .slice a n cap ∧ IsInts .i64 w a n (ints zs) := by
  have hl : zs.length = n := by have := h.1; simpa [cellsI] using this
  have hi : (ints zs).length = n := by simpa [ints] using hl
  have hwf : ∀ z ∈ ints zs, (Lit.int .i64 z).wf = true := by
    intro z hz
    simp only [ints, List.mem_map] at hz
    obtain ⟨k, hk, rfl⟩ := hz
    have := hw k hk
    exact WalkArith.wf_i64 (by omega)
  have hh := h.2
  rcases hh with ⟨rfl, rfl⟩ | ⟨g, cap, cur, rfl, hb, hg, h1, h2, h3, h4⟩
  · exact ⟨none, 0, rfl, hi, Nat.zero_le _, hwf, by omega⟩
  · refine ⟨some ⟨g, 0, none⟩, cap, rfl, hi, hn, hwf, fun h0 => ⟨g, 0, rfl, fun i hi => ?_⟩⟩
    have hc := h.cells (g := g) rfl i (.int .i64 ((ints zs).getD i 0)) (by simp [cellsI, ints, List.getD, List.getElem?_eq_getElem (show i < zs.length by omega)])
    rw [Go.WideShapes.add_plain] at hc
    exact hc
theorem IsInts.below {k : IntKind} {w w' : World} {a : Option Addr} {len : Nat} {zs : List Int} (h : IsInts k w a len zs) (b : Below w.heap.size w w') : IsInts k w' a len zs :=
  ⟨h.length, h.max, h.wf, fun h0 => by
    obtain ⟨bl, off, rfl, hc⟩ := h.cells h0
    exact ⟨bl, off, rfl, fun i hi => (b.cell (p := ⟨bl, off + i, none⟩) (lt_of_cell (hc i hi))).trans (hc i hi)⟩⟩
theorem infoI : (Try.prog.info? 3).map (fun i => (i.zero, i.size, i.bytes)) = some (some (.int .i64 0), 1, 8) := by kernel_rfl
def Rowed (w : World) (zs : List Nat) (e : Ending) (w' : World) : Prop := ∃ a n c, e = .returned (.slice a n c) ∧ IsInts .i64 w' a n (ints zs) ∧ Below w.heap.size w w'
theorem rowed_of {w w' : World} {B n : Nat} {v : Value} {zs : List Nat} (h : w'.ownsRow B 3 1 v n (cellsI zs)) (hb : Below w.heap.size w w') (hn : n ≤ maxLen) (hz : ∀ z ∈ zs, z ≤ 9223372036854775807) : Rowed w zs (.returned v) w' := by
  obtain ⟨a, cap, rfl, hi⟩ := ints_owned h hn hz
  exact ⟨a, n, cap, rfl, hi, hb⟩
end Go.Proofs.Ytoakjcmhmlngfaa
