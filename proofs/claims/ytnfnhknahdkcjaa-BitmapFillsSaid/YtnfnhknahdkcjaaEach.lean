/- The bits that are taken, in a row: what package bitmap's Each and the document's Each give; two equal rows are the same. -/
import Derived.Test.YtnfnhknahdkcjaaBits
import Derived.Deep.QuietTactic
import Derived.BigQuiet
namespace Go.Proofs.Ytnfnhknahdkcjaa
open Go.RowKit

def cellsI (zs : List Nat) : List Value := zs.map fun n => Value.int .i64 ((n : Nat) : Int)
theorem cellsI_snoc (zs : List Nat) (n : Nat) : cellsI (zs ++ [n]) = cellsI zs ++ [.int .i64 ((n : Nat) : Int)] := by simp [cellsI]
/-- A row of numbers in memory: numbers from 0 on, all below a bound. -/
def ints (zs : List Nat) : List Int := zs.map fun n => ((n : Nat) : Int)
theorem ints_owned {w : World} {base : Nat} {v : Value} {n : Nat} {zs : List Nat} (h : w.ownsRow base 3 1 v n (cellsI zs)) (hn : n ≤ maxLen) (hw : ∀ z ∈ zs, z ≤ 9223372036854775807) :
    ∃ a cap, v = .slice a n cap ∧ IsInts .i64 w a n (ints zs) := by
  have hl : zs.length = n := by have := h.1; simpa [cellsI] using this
  have hi : (ints zs).length = n := by simpa [ints] using hl
  have hwf : ∀ z ∈ ints zs, (Lit.int .i64 z).wf = true := by
    intro z hz
    simp only [ints, List.mem_map] at hz
    obtain ⟨k, hk, rfl⟩ := hz
    have := hw k hk
    exact WalkArith.wf_i64 (by omega)
  have hh := h.2
  rcases hh with ⟨rfl, rfl⟩ | ⟨g, cap, cur, rfl, hb, hg, h1, h2, h3, h4⟩
  · exact ⟨none, 0, rfl, hi, Nat.zero_le _, hwf, by omega⟩
  · refine ⟨some ⟨g, 0, none⟩, cap, rfl, hi, hn, hwf, fun h0 => ⟨g, 0, rfl, fun i hi => ?_⟩⟩
    have hc := h.cells (g := g) rfl i (.int .i64 ((ints zs).getD i 0)) (by simp [cellsI, ints, List.getD, List.getElem?_eq_getElem (show i < zs.length by omega)])
    rw [Go.WideShapes.add_plain] at hc
    exact hc
theorem IsInts.below {k : IntKind} {w w' : World} {a : Option Addr} {len : Nat} {zs : List Int} (h : IsInts k w a len zs) (b : Below w.heap.size w w') : IsInts k w' a len zs :=
  ⟨h.length, h.max, h.wf, fun h0 => by
    obtain ⟨bl, off, rfl, hc⟩ := h.cells h0
    exact ⟨bl, off, rfl, fun i hi => (b.cell (p := ⟨bl, off + i, none⟩) (lt_of_cell (hc i hi))).trans (hc i hi)⟩⟩
theorem infoI : (Try.prog.info? 3).map (fun i => (i.zero, i.size, i.bytes)) = some (some (.int .i64 0), 1, 8) := by kernel_rfl
def Rowed (w : World) (zs : List Nat) (e : Ending) (w' : World) : Prop := ∃ a n c, e = .returned (.slice a n c) ∧ IsInts .i64 w' a n (ints zs) ∧ Below w.heap.size w w'
theorem rowed_of {w w' : World} {B n : Nat} {v : Value} {zs : List Nat} (h : w'.ownsRow B 3 1 v n (cellsI zs)) (hb : Below w.heap.size w w') (hn : n ≤ maxLen) (hz : ∀ z ∈ zs, z ≤ 9223372036854775807) : Rowed w zs (.returned v) w' := by
  obtain ⟨a, cap, rfl, hi⟩ := ints_owned h hn hz
  exact ⟨a, n, cap, rfl, hi, hb⟩
set_option maxHeartbeats 1000000 in
theorem Each_any (l : List UInt8) (hl : l.length ≤ 100000) (w : World) :
    Calls Try.prog 21 #[.string (str l)] w (Rowed w (Bm.each l)) := by
  obtain ⟨i0, hi, hz0, hz1, hz2⟩ := info_parts infoI
  obtain ⟨B, HB⟩ : ∃ B, Hid (w.heap.size = B) := ⟨_, Lib.hid rfl⟩
  have Hi := Lib.hid hi
  have Hz0 := Lib.hid hz0
  have Hz1 := Lib.hid hz1
  have Hz2 := Lib.hid hz2
  clear hi hz0 hz1 hz2
  go_enter Try.func21, Try.ntmps21
  go_wp2_with fail
  rw [show Value.int .i64 0 = Value.int .i64 ((0 : Nat) : Int) from rfl]
  refine (next_any _ hl 0 (by omega) _ _).mono ?_
  rintro e w1 ⟨rfl, rfl⟩
  go_wp2_with fail
  go_loopg [3, 4] (8 * l.length) (fun g v i wr => ∃ m : Nat, m + g = 8 * l.length ∧ i = .int .i64 (Bm.next l m true) ∧ wr.ownsRow B 3 1 v (Bm.upto l m).length (cellsI (Bm.upto l m)) ∧ Below B w wr)
  case atStart => exact ⟨0, by omega, rfl, World.ownsRow_nil _ _ _ _, Below.refl _ _⟩
  case round =>
    obtain ⟨m, hm, rfl, hown, hbel⟩ := hrel
    have Hown := Lib.hid hown
    have Hbel := Lib.hid hbel
    clear hown hbel
    rcases Bm.next_cases l m true with ⟨hn, hall⟩ | ⟨k, hn, hmk, hk8, hbk, hall⟩
    · have He := Lib.hid (Bm.upto_skip' (l := l) (a := m) (b := 8 * l.length) (by omega) (fun j h1 h2 => by have := hall j h1 h2; simpa using this))
      clear hall
      rw [hn]
      clear hn
      go_wp2
      go_ret
      have hle := Bm.upto_length l m
      rw [Bm.each, He.out]
      exact rowed_of Hown.out (HB.out ▸ Hbel.out) (by unfold maxLen; omega) (fun z hz => by have := (Bm.mem_upto.1 hz).1; omega)
    · have He := Lib.hid (show Bm.upto l (k + 1) = Bm.upto l m ++ [k] by
        rw [Bm.upto_succ, if_pos hbk, Bm.upto_skip' hmk (fun j h1 h2 => by have := hall j h1 h2; simpa using this)])
      have hle := Bm.upto_length l m
      rw [hn]
      have Hn := Lib.hid hn
      clear hall hn
      obtain ⟨zs, Hzs⟩ : ∃ zs, Hid (Bm.upto l m = zs) := ⟨_, Lib.hid rfl⟩
      rw [Hzs.out] at He Hown hle
      go_wp2_with (at_builtin; refine wpList_append_own _ rfl _ _ 29 rfl B 3 i0 (.int .i64 0) 1 8 Try.underlying29 Hi.out Hz0.out Hz1.out Hz2.out rfl (by decide) _ _ _ rfl (Hown.out.alloc _) ⟨wr.heap.size, 0, none⟩ 1 1 [.int .i64 ((k : Nat) : Int)] rfl rfl ?c1 ?c2 ?c3 ?c4 ?c5 ?_)
      case c1 =>
        intro j u hj
        match j, hj with
        | 0, hj => simp at hj; subst hj; simp [Addr.add, go_sem]
      case c2 => intro u hu; simp at hu; subst hu; rfl
      case c3 => unfold maxLen; omega
      case c4 => omega
      case c5 => have := Hbel.out.size; have := HB.out; simp; omega
      intro v' w1 hown' hgrow _
      have Hown' := Lib.hid hown'
      have Hbel' := Lib.hid (Below.grown (Hbel.out.alloc (by have := Hbel.out.size; have := HB.out; omega) _) hgrow (by have := Hbel.out.size; have := HB.out; simp; omega) fun r hr => (Hown.out.lt r hr).1)
      clear hown' hgrow
      go_wp2_with fail
      rw [show (k : Int) + 1 = ((k + 1 : Nat) : Int) by omega]
      refine (next_any _ hl (k + 1) (by omega) _ _).mono ?_
      rintro e w2 ⟨rfl, rfl⟩
      go_wp2
      go_roundg (8 * l.length - (k + 1))
      case rel =>
        refine ⟨k + 1, by omega, rfl, ?_, Hbel'.out⟩
        rw [He.out, List.length_append, cellsI_snoc]
        exact Hown'.out
      case measure => omega
end Go.Proofs.Ytnfnhknahdkcjaa
