/- Modes told apart: how many of each there are among some numbers. -/
import Derived.Test.YthpmodohfjjjcaaChecked
import Derived.Test.YthpmodohfjjjcaaClose
import Derived.Test.YthpmodohfjjjcaaMix
import Derived.Outline
namespace Go.Proofs.Ythpmodohfjjjcaa
open Go.RowKit

theorem beq_no {a b : Int} (h : a ≠ b) : (a == b) = false := by simpa using h
theorem beq_yes {a b : Int} (h : a = b) : (a == b) = true := by simpa using h
def modeB (z : Int) : Bool := z == 0 || z == 1 || z == 2
/-- How many of the first k are z. -/
def cntZ (z : Int) (l : List Int) (k : Nat) : Nat := ((l.take k).filter (· == z)).length
def okZ (l : List Int) : Bool := l.all modeB
theorem cnt_le (z : Int) (l : List Int) (k : Nat) : cntZ z l k ≤ k := by
  have h := List.length_filter_le (· == z) (l.take k)
  rw [List.length_take] at h
  unfold cntZ
  omega
theorem cnt_zero (z : Int) (l : List Int) : cntZ z l 0 = 0 := rfl
theorem cnt_next {l : List Int} {k : Nat} {m : Int} (h : l[k]? = some m) (z : Int) : cntZ z l (k + 1) = cntZ z l k + (if m = z then 1 else 0) := by
  obtain ⟨hk, e⟩ := List.getElem?_eq_some_iff.1 h
  unfold cntZ
  rw [List.take_succ_eq_append_getElem hk, e, List.filter_append, List.length_append]
  congr 1
  by_cases hz : m = z <;> simp [hz]
theorem ok_next {l : List Int} {k : Nat} {m : Int} (h : l[k]? = some m) : okZ (l.take (k + 1)) = (okZ (l.take k) && modeB m) := by
  obtain ⟨hk, e⟩ := List.getElem?_eq_some_iff.1 h
  rw [List.take_succ_eq_append_getElem hk, e]
  simp [okZ]
theorem ok_no {l : List Int} {k : Nat} (h : okZ (l.take k) = false) : okZ l = false := by
  cases h2 : okZ l with
  | false => rfl
  | true =>
    simp only [okZ, List.all_eq_true] at h2
    have : okZ (l.take k) = true := by simp only [okZ, List.all_eq_true]; exact fun x hx => h2 x (List.mem_of_mem_take hx)
    rw [h] at this; cases this
/-- What is told of some numbers. -/
def tellV (l : List Int) : Value := if okZ l then .tuple #[.agg #[.int .i64 (cntZ 0 l l.length : Nat), .int .i64 (cntZ 1 l l.length : Nat), .int .i64 (cntZ 2 l l.length : Nat)], .bool true] else .tuple #[.agg #[.int .i64 0, .int .i64 0, .int .i64 0], .bool false]
def talC (a b c : Nat) : Array Value := #[.int .i64 (a : Int), .int .i64 (b : Int), .int .i64 (c : Int)]
structure BoxT (w : World) (b : Nat) (x y z : Nat) : Prop where
  blk : w.heap[b]? = some (.cells (talC x y z) 118 (0, 0))
theorem BoxT.lt {w : World} {b x y z : Nat} (h : BoxT w b x y z) : b < w.heap.size := by
  rcases Nat.lt_or_ge b w.heap.size with hlt | hge
  · exact hlt
  · have := h.blk; rw [Array.getElem?_eq_none hge] at this; cases this
theorem BoxT.cells {w : World} {b x y z : Nat} (h : BoxT w b x y z) : w.cell? ⟨b, 0, none⟩ = some (.int .i64 (x : Int)) ∧ w.cell? ⟨b, 1, none⟩ = some (.int .i64 (y : Int)) ∧ w.cell? ⟨b, 2, none⟩ = some (.int .i64 (z : Int)) := by
  have := h.blk
  refine ⟨?_, ?_, ?_⟩ <;> simp [World.cell?, this, talC]
theorem BoxT.free {w : World} {b x y z : Nat} (h : BoxT w b x y z) (o : Nat) : w.frozen? ⟨b, o, none⟩ = false := by
  have := h.blk
  simp [World.frozen?, this]
theorem BoxT.new (w : World) : BoxT (w.alloc (.cells (talC 0 0 0) 118)) w.heap.size 0 0 0 := ⟨heap_alloc_new w _⟩
theorem BoxT.set {w : World} {b x y z : Nat} (h : BoxT w b x y z) (o : Nat) (v : Value) (x' y' z' : Nat) (e : (talC x y z).setIfInBounds o v = talC x' y' z') : BoxT (w.setCell ⟨b, o, none⟩ v) b x' y' z' := by
  obtain ⟨hlt, hk⟩ := Array.getElem?_eq_some_iff.1 h.blk
  refine ⟨?_⟩
  show (w.heap.modify b _)[b]? = _
  rw [Array.getElem?_eq_getElem (by rw [Array.size_modify]; exact hlt), Array.getElem_modify_self, hk, ← e]
  rfl
theorem BoxT.other {w : World} {b x y z : Nat} (h : BoxT w b x y z) {g o : Nat} (v : Value) (hne : g ≠ b) : BoxT (w.setCell ⟨g, o, none⟩ v) b x y z := ⟨(Below.heap_setCell w ⟨g, o, none⟩ v b hne.symm).trans h.blk⟩
set_option maxHeartbeats 1000000 in
theorem tell_any (w : World) (g n : Nat) (l : List Int) (hn : l.length = n) (hm : n ≤ 100) (hg : g < w.heap.size) (hc : ∀ i m, l[i]? = some m → w.cell? ⟨g, i, none⟩ = some (.int .i64 m)) :
    Calls Try.prog 69 #[.slice (some ⟨g, 0, none⟩) n n] w fun e w' => e = .returned (tellV l) ∧ Below w.heap.size w w' := by
  have Hc := Lib.hid hc
  have Hn := Lib.hid hn
  clear hc hn
  go_enter Try.func69, Try.ntmps69
  go_wp2
  go_step3
  go_wp2
  go_step3
  go_wp2
  obtain ⟨w1, Hw1⟩ : ∃ w1, Hid ((w.alloc (.cells #[.int .i64 0, .int .i64 0, .int .i64 0] 118)).alloc (.cells #[.int .i64 0, .int .i64 0, .int .i64 0] 118) = w1) := ⟨_, Lib.hid rfl⟩
  obtain ⟨p, Hp⟩ : ∃ p, Hid (w.heap.size = p) := ⟨_, Lib.hid rfl⟩
  have HA : Hid (BoxT w1 p 0 0 0) := Lib.hid (by rw [← Hw1.out, ← Hp.out]; exact ⟨((Below.heap_alloc _ _ _ (by simp)).trans (BoxT.new w).blk)⟩)
  have HB : Hid (BoxT w1 (p + 1) 0 0 0) := Lib.hid (by
    have := BoxT.new (w.alloc (.cells (talC 0 0 0) 118))
    rw [← Hw1.out, ← Hp.out]
    have h2 : BoxT ((w.alloc (.cells (talC 0 0 0) 118)).alloc (.cells (talC 0 0 0) 118)) (w.heap.size + 1) 0 0 0 := by simpa using this
    exact h2)
  have HBl : Hid (Below w.heap.size w w1) := Lib.hid (by rw [← Hw1.out]; exact balloc (balloc (Below.refl _ _) _) _)
  rw [Hw1.out, Hp.out]
  go_loopw [5, 7, 11] (fun ok _ i wr => ∃ k : Nat, i = .int .i64 (k : Int) ∧ ok = .bool true ∧ k ≤ n ∧ Hid (okZ (l.take k) = true) ∧ Hid (Below w.heap.size w wr) ∧ Hid (BoxT wr p 0 0 0) ∧ Hid (BoxT wr (p + 1) (cntZ 0 l k) (cntZ 1 l k) (cntZ 2 l k))) (fun _ _ i _ => n - (intOf i).toNat)
  case atStart => exact ⟨0, rfl, rfl, Nat.zero_le _, Lib.hid (by simp [okZ]), HBl, HA, HB⟩
  case round =>
    obtain ⟨k, rfl, rfl, hk, HO, HBl2, HA2, HB2⟩ := hrel
    by_cases hlt : k < n
    · obtain ⟨m, hm⟩ : ∃ m, l[k]? = some m := ⟨_, List.getElem?_eq_getElem (by rw [Hn.out]; exact hlt)⟩
      have hcell : wr.cell? ⟨g, k, none⟩ = some (.int .i64 m) := (HBl2.out.cell (p := ⟨g, k, none⟩) hg).trans (Hc.out k m hm)
      have Hok := Lib.hid (ok_next hm)
      have Hn0 := Lib.hid (cnt_next hm 0)
      have Hn1 := Lib.hid (cnt_next hm 1)
      have Hn2 := Lib.hid (cnt_next hm 2)
      clear hm
      obtain ⟨x, Hx⟩ : ∃ x, Hid (cntZ 0 l k = x) := ⟨_, Lib.hid rfl⟩
      obtain ⟨y, Hy⟩ : ∃ x, Hid (cntZ 1 l k = x) := ⟨_, Lib.hid rfl⟩
      obtain ⟨z, Hz⟩ : ∃ x, Hid (cntZ 2 l k = x) := ⟨_, Lib.hid rfl⟩
      have hx : x ≤ k := by rw [← Hx.out]; exact cnt_le _ _ _
      have hy : y ≤ k := by rw [← Hy.out]; exact cnt_le _ _ _
      have hz : z ≤ k := by rw [← Hz.out]; exact cnt_le _ _ _
      rw [Hx.out, Hy.out, Hz.out] at HB2
      have c0 := HB2.out.cells.1
      have c1 := HB2.out.cells.2.1
      have c2 := HB2.out.cells.2.2
      have f0 := HB2.out.free 0
      have f1 := HB2.out.free 1
      have f2 := HB2.out.free 2
      by_cases h0 : m = 0
      · subst h0
        go_wp2
        go_roundw
        case rel => exact ⟨k + 1, by go_num, rfl, by omega, Lib.hid (by rw [Hok.out, HO.out]; rfl), HBl2.out.setCell (by have := Hp.out; show _ ≤ p + 1; omega) _ |> Lib.hid, Lib.hid (HA2.out.other _ (by omega)), Lib.hid (by rw [Hn0.out, Hn1.out, Hn2.out, Hx.out, Hy.out, Hz.out]; exact HB2.out.set 0 _ _ _ _ rfl)⟩
        case measure => simp [intOf]; omega
      · have h0' : (m == 0) = false := beq_no h0
        by_cases h1 : m = 1
        · subst h1
          go_wp2
          go_roundw
          case rel => exact ⟨k + 1, by go_num, rfl, by omega, Lib.hid (by rw [Hok.out, HO.out]; rfl), HBl2.out.setCell (by have := Hp.out; show _ ≤ p + 1; omega) _ |> Lib.hid, Lib.hid (HA2.out.other _ (by omega)), Lib.hid (by rw [Hn0.out, Hn1.out, Hn2.out, Hx.out, Hy.out, Hz.out]; exact HB2.out.set 1 _ _ _ _ rfl)⟩
          case measure => simp [intOf]; omega
        · have h1' : (m == 1) = false := beq_no h1
          by_cases h2 : m = 2
          · subst h2
            go_wp2
            go_roundw
            case rel => exact ⟨k + 1, by go_num, rfl, by omega, Lib.hid (by rw [Hok.out, HO.out]; rfl), HBl2.out.setCell (by have := Hp.out; show _ ≤ p + 1; omega) _ |> Lib.hid, Lib.hid (HA2.out.other _ (by omega)), Lib.hid (by rw [Hn0.out, Hn1.out, Hn2.out, Hx.out, Hy.out, Hz.out]; exact HB2.out.set 2 _ _ _ _ rfl)⟩
            case measure => simp [intOf]; omega
          · have h2' : (m == 2) = false := beq_no h2
            have Hfal : Hid (okZ l = false) := Lib.hid (ok_no (k := k + 1) (by rw [Hok.out]; simp [modeB, h0', h1', h2']))
            clear h0 h1 h2
            have z0 := HA2.out.cells.1
            have z1 := HA2.out.cells.2.1
            have z2 := HA2.out.cells.2.2
            have g0 := HA2.out.free 0
            have g1 := HA2.out.free 1
            have g2 := HA2.out.free 2
            go_wp2
            rw [Exit.noGoto_ret]
            exact bodyPost_ret (v := .tuple #[.agg #[.int .i64 0, .int .i64 0, .int .i64 0], .bool false]) (by simp [results, Try.results69, go_sem, z0, z1, z2]) rfl ⟨by rw [tellV, Hfal.out]; rfl, Below.setCell (Below.setCell (Below.setCell (Below.setCell (Below.setCell (Below.setCell (HBl2.out) (by have := Hp.out; show _ ≤ p + 1; omega) _) (by have := Hp.out; show _ ≤ p + 1; omega) _) (by have := Hp.out; show _ ≤ p + 1; omega) _) (by have := Hp.out; show _ ≤ p; omega) _) (by have := Hp.out; show _ ≤ p; omega) _) (by have := Hp.out; show _ ≤ p; omega) _⟩
    · obtain rfl : k = n := by omega
      have c0 := HB2.out.cells.1
      have c1 := HB2.out.cells.2.1
      have c2 := HB2.out.cells.2.2
      have z0 := HA2.out.cells.1
      have z1 := HA2.out.cells.2.1
      have z2 := HA2.out.cells.2.2
      have g0 := HA2.out.free 0
      have g1 := HA2.out.free 1
      have g2 := HA2.out.free 2
      go_wp2
      have HO2 : Hid (okZ l = true) := Lib.hid (by have h := HO.out; rwa [List.take_of_length_le (by rw [Hn.out]; omega)] at h)
      rw [Exit.noGoto_ret]
      exact bodyPost_ret (v := .tuple #[.agg #[.int .i64 (cntZ 0 l k : Nat), .int .i64 (cntZ 1 l k : Nat), .int .i64 (cntZ 2 l k : Nat)], .bool true]) (by simp [results, Try.results69, go_sem, z0, z1, z2]) rfl ⟨by rw [tellV, HO2.out, Hn.out]; rfl, Below.setCell (Below.setCell (Below.setCell (HBl2.out) (by have := Hp.out; show _ ≤ p; omega) _) (by have := Hp.out; show _ ≤ p; omega) _) (by have := Hp.out; show _ ≤ p; omega) _⟩
end Go.Proofs.Ythpmodohfjjjcaa
