/- Rows of numbers that are built by append; two equal rows are the same. -/
import Derived.Test.YtjmhepipkmbbmaaChecked
import Derived.Test.YtjmhepipkmbbmaaClose
import Derived.Deep.QuietTactic
import Derived.BigQuiet
import Derived.ArgAppend
namespace Go.Proofs.Ytjmhepipkmbbmaa
open Go.RowKit

def cellsI (zs : List Nat) : List Value := zs.map fun n => Value.int .i64 ((n : Nat) : Int)
theorem cellsI_snoc (zs : List Nat) (n : Nat) : cellsI (zs ++ [n]) = cellsI zs ++ [.int .i64 ((n : Nat) : Int)] := by simp [cellsI]
/-- A row of numbers in memory: numbers from 0 on, all below a bound. -/
def ints (zs : List Nat) : List Int := zs.map fun n => ((n : Nat) : Int)
theorem ints_owned {w : World} {base : Nat} {v : Value} {n : Nat} {zs : List Nat} (h : w.ownsRow base 3 1 v n (cellsI zs)) (hn : n ≤ maxLen) (hw : ∀ z ∈ zs, z ≤ 9223372036854775807) :
    ∃ a cap, v = .slice a n cap ∧ IsInts .i64 w a n (ints zs) ∧ (∀ p, a = some p → base ≤ p.block) := by
  have hl : zs.length = n := by have := h.1; simpa [cellsI] using this
  have hi : (ints zs).length = n := by simpa [ints] using hl
  have hwf : ∀ z ∈ ints zs, (Lit.int .i64 z).wf = true := by
    intro z hz
    simp only [ints, List.mem_map] at hz
    obtain ⟨k, hk, rfl⟩ := hz
    have := hw k hk
    exact WalkArith.wf_i64 (by omega)
  have hh := h.2
  rcases hh with ⟨rfl, rfl⟩ | ⟨g, cap, cur, rfl, hb, hg, h1, h2, h3, h4⟩
  · exact ⟨none, 0, rfl, ⟨hi, Nat.zero_le _, hwf, by omega⟩, fun p hp => by cases hp⟩
  · refine ⟨some ⟨g, 0, none⟩, cap, rfl, ⟨hi, hn, hwf, fun h0 => ⟨g, 0, rfl, fun i hi => ?_⟩⟩, fun p hp => by cases hp; exact hb⟩
    have hc := h.cells (g := g) rfl i (.int .i64 ((ints zs).getD i 0)) (by simp [cellsI, ints, List.getD, List.getElem?_eq_getElem (show i < zs.length by omega)])
    rw [Go.WideShapes.add_plain] at hc
    exact hc
theorem IsInts.below {k : IntKind} {w w' : World} {a : Option Addr} {len : Nat} {zs : List Int} (h : IsInts k w a len zs) (b : Below w.heap.size w w') : IsInts k w' a len zs :=
  ⟨h.length, h.max, h.wf, fun h0 => by
    obtain ⟨bl, off, rfl, hc⟩ := h.cells h0
    exact ⟨bl, off, rfl, fun i hi => (b.cell (p := ⟨bl, off + i, none⟩) (lt_of_cell (hc i hi))).trans (hc i hi)⟩⟩
theorem infoI : (Try.prog.info? 3).map (fun i => (i.zero, i.size, i.bytes)) = some (some (.int .i64 0), 1, 8) := by kernel_rfl
def Rowed (w : World) (zs : List Nat) (e : Ending) (w' : World) : Prop := ∃ a n c, e = .returned (.slice a n c) ∧ IsInts .i64 w' a n (ints zs) ∧ (∀ p, a = some p → w.heap.size ≤ p.block) ∧ Below w.heap.size w w'
theorem rowed_of {w w' : World} {B n : Nat} {v : Value} {zs : List Nat} (h : w'.ownsRow B 3 1 v n (cellsI zs)) (hB : w.heap.size = B) (hb : Below w.heap.size w w') (hn : n ≤ maxLen) (hz : ∀ z ∈ zs, z ≤ 9223372036854775807) : Rowed w zs (.returned v) w' := by
  obtain ⟨a, cap, rfl, hi, hp⟩ := ints_owned h hn hz
  exact ⟨a, n, cap, rfl, hi, hB ▸ hp, hb⟩
theorem Same_eq (a b : Option Addr) (n c m d : Nat) (zs : List Int) (w : World) (ha : IsInts .i64 w a n zs) (hb : IsInts .i64 w b m zs) :
    Calls Try.prog 17 #[.slice a n c, .slice b m d] w fun e w' => e = .returned (.bool true) ∧ Below w.heap.size w w' := by
  have hm := ha.max
  unfold maxLen at hm
  obtain rfl : n = m := by rw [← ha.length, hb.length]
  go_enter Try.func17, Try.ntmps17
  go_wp2
  go_loopw [5] (fun i wr => ∃ k : Nat, k ≤ n ∧ i = .int .i64 k ∧ Below w.heap.size w wr) (fun i _ => n - (intOf i).toNat)
  case atStart => exact ⟨0, Nat.zero_le _, rfl, Below.refl _ _⟩
  case round =>
    obtain ⟨k, hk, rfl, hbel⟩ := hrel
    have Hbel := Lib.hid hbel
    clear hbel
    by_cases hlt : k < n
    · obtain ⟨p, o, rfl, hc⟩ := (ha.below Hbel.out).cells (by omega)
      obtain ⟨p', o', rfl, hc'⟩ := (hb.below Hbel.out).cells (by omega)
      have h1 := hc k hlt
      have h2 := hc' k hlt
      obtain ⟨z, Hz⟩ : ∃ z, Hid (zs.getD k 0 = z) := ⟨_, Lib.hid rfl⟩
      rw [Hz.out] at h1 h2
      clear hc hc'
      have i1 : (k : Int) < (n : Int) := by omega
      have i0 : 0 ≤ (k : Int) := by omega
      go_wp2_with fail
      go_quiet (fail)
      go_wp2
      go_roundw
      case rel => exact ⟨k + 1, by omega, by go_num, Below.trans Hbel.out ((below_drewN wr _).mono Hbel.out.size)⟩
      case measure => simp [intOf]; omega
    · go_wp2
      go_ret
      exact ⟨rfl, Hbel.out⟩
theorem own_below {w w' : World} {base : Nat} {e : TypeId} {size n : Nat} {v : Value} {xs : List Value} (h : w.ownsRow base e size v n xs) (m : Below w.heap.size w w') : w'.ownsRow base e size v n xs := by
  refine ⟨h.1, ?_⟩
  rcases h.2 with h0 | ⟨g, cap, cur, rfl, hb, hg, h1, h2, h3, h4⟩
  · exact .inl h0
  · refine .inr ⟨g, cap, cur, rfl, hb, ?_, h1, h2, h3, h4⟩
    have hlt : g < w.heap.size := (Array.getElem?_eq_some_iff.1 hg).1
    exact (m.block g hlt).trans hg
/-- Those below m of which p says so. -/
def pick (p : Nat → Bool) (m : Nat) : List Nat := (List.range m).filter p
theorem pick_succ (p : Nat → Bool) (m : Nat) : pick p (m + 1) = if p m then pick p m ++ [m] else pick p m := by
  unfold pick
  rw [List.range_succ, List.filter_append]
  cases h : p m <;> simp [h]
theorem pick_len (p : Nat → Bool) (m : Nat) : (pick p m).length ≤ m := by
  have := List.length_filter_le p (List.range m)
  simpa [pick] using this
theorem pick_mem {p : Nat → Bool} {m z : Nat} (h : z ∈ pick p m) : z < m := by
  simp [pick] at h; exact h.1
theorem pick_congr {p q : Nat → Bool} {m : Nat} (h : ∀ k, k < m → p k = q k) : pick p m = pick q m := by
  unfold pick
  exact List.filter_congr fun k hk => h k (List.mem_range.1 hk)
end Go.Proofs.Ytjmhepipkmbbmaa
