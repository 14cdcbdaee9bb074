/- Whether two views are the same: the document's own question. -/
import Derived.Test.YtnbhjehaecifcaaIdx
import Derived.Laws.StructEq
namespace Go.Proofs.Ytnbhjehaecifcaa
open Go.RowKit

def sameL (l l' : List Mb) : Bool := decide (l = l')
def sameB (V W : Vw) : Bool := decide (V.incs = W.incs) && (sameL V.mem W.mem && (sameL V.dead W.dead && (V.nodes == W.nodes && V.epoch == W.epoch)))
theorem neq_mb (p q : Mb) (w : World) : (binOp .neq 43 (.agg #[.int .i64 p.1, .int .i64 p.2.1, .bool p.2.2]) (.agg #[.int .i64 q.1, .int .i64 q.2.1, .bool q.2.2])).run Try.prog w = .ok (.bool (decide (p ≠ q))) w := by
  have hu : Try.prog.underlying 43 = some (.struct (Try.prog.fieldsOf 43)) := by kernel_rfl
  have hp : Try.prog.stoodInHeld 43 = false := by kernel_rfl
  rw [run_neq_struct, run_equalIn_agg _ _ _ _ _ hu hp]
  obtain ⟨p1, p2, p3⟩ := p
  obtain ⟨q1, q2, q3⟩ := q
  by_cases h1 : p1 = q1 <;> by_cases h2 : p2 = q2 <;> by_cases h3 : p3 = q3 <;>
    simp [Program.fieldsOf, Try.underlying43, Try.underlying3, Try.underlying4, go_sem, part, h1, h2, h3]
theorem take_more {α : Type} {l l' : List α} {k : Nat} {m : α} (h : l.take k = l'.take k) (h1 : l[k]? = some m) (h2 : l'[k]? = some m) : l.take (k + 1) = l'.take (k + 1) := by
  obtain ⟨a1, b1⟩ := List.getElem?_eq_some_iff.1 h1
  obtain ⟨a2, b2⟩ := List.getElem?_eq_some_iff.1 h2
  rw [List.take_succ_eq_append_getElem a1, List.take_succ_eq_append_getElem a2, h, b1, b2]
set_option maxHeartbeats 2000000 in
theorem same_any (w : World) (A A' : Option Addr) (n c n' c' : Nat) (l l' : List Mb) (h : IsL w A n c l) (h' : IsL w A' n' c' l') :
    Calls Try.prog 22 #[.slice A n c, .slice A' n' c'] w fun e w' => e = .returned (.bool (sameL l l')) ∧ Below w.heap.size w w' := by
  have hn := h.small
  have hn' := h'.small
  have Hh := Lib.hid h
  have Hh' := Lib.hid h'
  by_cases hlen : n = n'
  case neg =>
    have hb : ((n : Int) != (n' : Int)) = true := bne_yes (by omega)
    have Hr : Hid (sameL l l' = false) := Lib.hid (decide_eq_false (fun e => hlen (by rw [← h.length, ← h'.length, e])))
    clear h h' hlen
    go_enter Try.func22, Try.ntmps22
    go_wp2
    go_ret
    exact ⟨ret_bool Hr.out.symm, Below.refl _ _⟩
  case pos =>
    subst hlen
    have hb : ((n : Int) != (n : Int)) = false := bne_no rfl
    clear h h'
    go_enter Try.func22, Try.ntmps22
    go_wp2
    go_loopw [5] (fun i wr => ∃ k : Nat, i = .int .i64 (k : Int) ∧ k ≤ n ∧ Hid (l.take k = l'.take k) ∧ Hid (Below w.heap.size w wr)) (fun i _ => n - (intOf i).toNat)
    case atStart => exact ⟨0, rfl, Nat.zero_le _, Lib.hid rfl, Lib.hid (Below.refl _ _)⟩
    case round =>
      obtain ⟨k, rfl, hk, HT, HB⟩ := hrel
      by_cases hlt : k < n
      · obtain ⟨g, off, eA, hg, hc⟩ := (Hh.out.below HB.out).cells (by omega)
        obtain ⟨g', off', eA', hg', hc'⟩ := (Hh'.out.below HB.out).cells (by omega)
        obtain ⟨m, hm⟩ : ∃ m, l[k]? = some m := ⟨_, List.getElem?_eq_getElem (by rw [Hh.out.length]; exact hlt)⟩
        obtain ⟨m', hm'⟩ : ∃ m', l'[k]? = some m' := ⟨_, List.getElem?_eq_getElem (by rw [Hh'.out.length]; exact hlt)⟩
        have k0 : ∀ y : In (Abv wr), y.u.cell? ⟨g, off + k * 3, none⟩ = some (.int .i64 m.1) := fun y => (y.is.cell (p := ⟨g, off + k * 3, none⟩) hg).trans (hc k m hm).1
        have k1 : ∀ y : In (Abv wr), y.u.cell? ⟨g, off + k * 3 + 1, none⟩ = some (.int .i64 m.2.1) := fun y => (y.is.cell (p := ⟨g, off + k * 3 + 1, none⟩) hg).trans (hc k m hm).2.1
        have k2 : ∀ y : In (Abv wr), y.u.cell? ⟨g, off + k * 3 + 2, none⟩ = some (.bool m.2.2) := fun y => (y.is.cell (p := ⟨g, off + k * 3 + 2, none⟩) hg).trans (hc k m hm).2.2
        have m0 : ∀ y : In (Abv wr), y.u.cell? ⟨g', off' + k * 3, none⟩ = some (.int .i64 m'.1) := fun y => (y.is.cell (p := ⟨g', off' + k * 3, none⟩) hg').trans (hc' k m' hm').1
        have m1 : ∀ y : In (Abv wr), y.u.cell? ⟨g', off' + k * 3 + 1, none⟩ = some (.int .i64 m'.2.1) := fun y => (y.is.cell (p := ⟨g', off' + k * 3 + 1, none⟩) hg').trans (hc' k m' hm').2.1
        have m2 : ∀ y : In (Abv wr), y.u.cell? ⟨g', off' + k * 3 + 2, none⟩ = some (.bool m'.2.2) := fun y => (y.is.cell (p := ⟨g', off' + k * 3 + 2, none⟩) hg').trans (hc' k m' hm').2.2
        have i1 := idxM (n := n) (c := c) eA hlt
        have i2 := idxM (n := n) (c := c') eA' hlt
        have E := fun w => neq_mb m m' w
        have Hm := Lib.hid hm
        have Hm' := Lib.hid hm'
        clear hc hc' hm hm' eA eA'
        go_wp2
        by_cases e : m = m'
        · have e' : decide (m ≠ m') = false := by simp [e]
          rw [e'] at E
          have HT2 : Hid (l.take (k + 1) = l'.take (k + 1)) := Lib.hid (take_more HT.out Hm.out (by rw [e]; exact Hm'.out))
          clear e e'
          refine wp_region_mix (by kernel_rfl) (Cls (Abv wr)) [(0, 0), (1, 0), (2, 0), (3, 0), (4, 0), (5, 0), (6, 0), (7, 0), (8, 0)] (by kernel_rfl) (cls (Below.refl _ _).drew) ?_
          repeat (refine mix0 rfl (fun K hK => ?_); go_simp; refine hK _ ?_; clear hK K)
          refine mixEnd ?_
          clear k0 k1 k2 m0 m1 m2 i1 i2 E
          have HB2 : Hid (Below w.heap.size w wr.drew) := Lib.hid HB.out.drew
          go_wp2
          go_roundw
          case rel => exact ⟨k + 1, by go_num, by omega, HT2, HB2⟩
          case measure => simp [intOf]; omega
        · have e' : decide (m ≠ m') = true := by simp [e]
          rw [e'] at E
          have Hr : Hid (sameL l l' = false) := Lib.hid (decide_eq_false (fun h => e (by have h1 := Hm.out; rw [h, Hm'.out] at h1; injection h1 with h1; exact h1.symm)))
          clear e e'
          refine wp_region_mix (by kernel_rfl) (Cls (Abv wr)) [(0, 0), (1, 0), (2, 0), (3, 0), (4, 0), (5, 0), (6, 0), (7, 0), (8, 0)] (by kernel_rfl) (cls (Below.refl _ _).drew) ?_
          repeat (refine mix0 rfl (fun K hK => ?_); go_simp; refine hK _ ?_; clear hK K)
          refine mixEnd ?_
          clear k0 k1 k2 m0 m1 m2 i1 i2 E
          go_wp2
          go_ret
          exact ⟨ret_bool Hr.out.symm, HB.out.drew⟩
      · obtain rfl : n = k := by omega
        have Hr : Hid (sameL l l' = true) := Lib.hid (decide_eq_true (by
          have := HT.out
          rwa [List.take_of_length_le (by rw [Hh.out.length]; exact Nat.le_refl _), List.take_of_length_le (by rw [Hh'.out.length]; exact Nat.le_refl _)] at this))
        go_wp2
        go_ret
        exact ⟨ret_bool Hr.out.symm, HB.out⟩
set_option maxHeartbeats 4000000 in
theorem Same_any (w : World) (x y : Vx) (V W : Vw) (h : IsV w x V) (h' : IsV w y W) :
    Calls Try.prog 9 #[vV x, vV y] w fun e w' => e = .returned (.bool (sameB V W)) ∧ Below w.heap.size w w' := by
  have hn := h.incs.small
  have hn' := h'.incs.small
  have Hh := Lib.hid h
  have Hh' := Lib.hid h'
  have Hl : Hid (V.incs.length = x.ir) := Lib.hid h.incs.length
  have Hl' : Hid (W.incs.length = y.ir) := Lib.hid h'.incs.length
  clear h h'
  obtain ⟨w1, Hw1⟩ : ∃ w1, Hid ((w.alloc (.cells (vC x) 25)).alloc (.cells (vC y) 25) = w1) := ⟨_, Lib.hid rfl⟩
  obtain ⟨p, Hp⟩ : ∃ p, Hid (w.heap.size = p) := ⟨_, Lib.hid rfl⟩
  have HA : Hid (BoxV w1 p x) := Lib.hid (by rw [← Hw1.out, ← Hp.out]; exact (BoxV.new w x).below ((Below.refl _ _).alloc (Nat.le_refl _) _))
  have HB : Hid (BoxV w1 (p + 1) y) := Lib.hid (by
    have := BoxV.new (w.alloc (.cells (vC x) 25)) y
    rw [Hw1.out] at this
    simpa [Hp.out] using this)
  have Hb1 : Hid (Below w.heap.size w w1) := Lib.hid (by rw [← Hw1.out]; exact balloc ((Below.refl _ _).alloc (Nat.le_refl _) _) _)
  by_cases hlen : x.ir = y.ir
  case neg =>
    have hb : ((x.ir : Int) != (y.ir : Int)) = true := bne_yes (by omega)
    have Hr : Hid (sameB V W = false) := Lib.hid (by
      have : ¬ V.incs = W.incs := fun e => hlen (by rw [← Hl.out, ← Hl'.out, e])
      simp [sameB, this])
    clear hlen
    go_enter Try.func9, Try.ntmps9
    go_wp2
    go_ret
    exact ⟨ret_bool Hr.out.symm, balloc ((Below.refl _ _).alloc (Nat.le_refl _) _) _⟩
  case pos =>
    have hb : ((x.ir : Int) != (y.ir : Int)) = false := bne_no (by omega)
    have Hlen := Lib.hid hlen
    clear hlen
    go_enter Try.func9, Try.ntmps9
    go_wp2
    rw [show ((w.alloc (.cells #[.int .i64 x.nodes, .int .i64 x.epoch, .slice x.mA x.mn x.mc, .slice x.dA x.dn x.dc, .slice x.iA x.ir x.ic] 25)).alloc (.cells #[.int .i64 y.nodes, .int .i64 y.epoch, .slice y.mA y.mn y.mc, .slice y.dA y.dn y.dc, .slice y.iA y.ir y.ic] 25)) = w1 from Hw1.out, Hp.out]
    go_loopw [5] (fun i wr => ∃ k : Nat, i = .int .i64 (k : Int) ∧ k ≤ x.ir ∧ Hid (V.incs.take k = W.incs.take k) ∧ Hid (Below w1.heap.size w1 wr)) (fun i _ => x.ir - (intOf i).toNat)
    case atStart => exact ⟨0, rfl, Nat.zero_le _, Lib.hid rfl, Lib.hid (Below.refl _ _)⟩
    case round =>
      obtain ⟨k, rfl, hk, HT, HBw⟩ := hrel
      have HA2 := Lib.hid (HA.out.below HBw.out)
      have HB2 := Lib.hid (HB.out.below HBw.out)
      have a4 := HA2.out.cells.2.2.2.2
      by_cases hlt : k < x.ir
      · have hlt' : k < y.ir := by have := Hlen.out; omega
        have v4 : ∀ y' : In (Abv wr), y'.u.cell? ⟨p, 4, none⟩ = some (.slice x.iA x.ir x.ic) := fun y' => (HA2.out.below y'.is).cells.2.2.2.2
        have u4 : ∀ y' : In (Abv wr), y'.u.cell? ⟨p + 1, 4, none⟩ = some (.slice y.iA y.ir y.ic) := fun y' => (HB2.out.below y'.is).cells.2.2.2.2
        obtain ⟨g, off, eA, hg, hc⟩ := ((Hh.out.below Hb1.out).below HBw.out).incs.cells (by omega)
        obtain ⟨g', off', eA', hg', hc'⟩ := ((Hh'.out.below Hb1.out).below HBw.out).incs.cells (by omega)
        obtain ⟨m, hm⟩ : ∃ m, V.incs[k]? = some m := ⟨_, List.getElem?_eq_getElem (by rw [Hl.out]; exact hlt)⟩
        obtain ⟨m', hm'⟩ : ∃ m', W.incs[k]? = some m' := ⟨_, List.getElem?_eq_getElem (by rw [Hl'.out]; exact hlt')⟩
        have k0 : ∀ y : In (Abv wr), y.u.cell? ⟨g, off + k, none⟩ = some (.int .i64 m) := fun y => (y.is.cell (p := ⟨g, off + k, none⟩) hg).trans (hc k m hm)
        have m0 : ∀ y : In (Abv wr), y.u.cell? ⟨g', off' + k, none⟩ = some (.int .i64 m') := fun y => (y.is.cell (p := ⟨g', off' + k, none⟩) hg').trans (hc' k m' hm')
        have i1 := idxI (n := x.ir) (c := x.ic) eA hlt
        have i2 := idxI (n := y.ir) (c := y.ic) eA' hlt'
        have Hm := Lib.hid hm
        have Hm' := Lib.hid hm'
        clear hc hc' hm hm' eA eA'
        go_wp2
        by_cases e : m = m'
        · have e' : (m != m') = false := bne_no e
          have HT2 : Hid (V.incs.take (k + 1) = W.incs.take (k + 1)) := Lib.hid (take_more HT.out Hm.out (by rw [e]; exact Hm'.out))
          clear e
          refine wp_region_mix (by kernel_rfl) (Cls (Abv wr)) [(0, 0), (1, 0), (2, 0), (3, 0), (4, 0), (5, 0), (6, 0), (7, 0), (8, 0), (9, 0), (10, 0)] (by kernel_rfl) (cls (Below.refl _ _).drew) ?_
          repeat (refine mix0 rfl (fun K hK => ?_); go_simp; refine hK _ ?_; clear hK K)
          refine mixEnd ?_
          clear k0 m0 i1 i2 v4 u4 a4
          have HBw2 : Hid (Below w1.heap.size w1 wr.drew) := Lib.hid HBw.out.drew
          go_wp2
          go_roundw
          case rel => exact ⟨k + 1, by go_num, by omega, HT2, HBw2⟩
          case measure => simp [intOf]; omega
        · have e' : (m != m') = true := bne_yes e
          have Hr : Hid (sameB V W = false) := Lib.hid (by
            have : ¬ V.incs = W.incs := fun h => e (by have h1 := Hm.out; rw [h, Hm'.out] at h1; injection h1 with h1; exact h1.symm)
            simp [sameB, this])
          clear e
          refine wp_region_mix (by kernel_rfl) (Cls (Abv wr)) [(0, 0), (1, 0), (2, 0), (3, 0), (4, 0), (5, 0), (6, 0), (7, 0), (8, 0), (9, 0), (10, 0)] (by kernel_rfl) (cls (Below.refl _ _).drew) ?_
          repeat (refine mix0 rfl (fun K hK => ?_); go_simp; refine hK _ ?_; clear hK K)
          refine mixEnd ?_
          clear k0 m0 i1 i2 v4 u4 a4
          go_wp2
          go_ret
          exact ⟨ret_bool Hr.out.symm, bnext Hb1.out HBw.out.drew⟩
      · obtain rfl : x.ir = k := by omega
        have Hi : Hid (V.incs = W.incs) := Lib.hid (by
          have := HT.out
          rwa [List.take_of_length_le (by rw [Hl.out]; exact Nat.le_refl _), List.take_of_length_le (by rw [Hl'.out, Hlen.out]; exact Nat.le_refl _)] at this)
        have Hr0 : Hid (sameB V W = (sameL V.mem W.mem && (sameL V.dead W.dead && (x.nodes == y.nodes && x.epoch == y.epoch)))) := Lib.hid (by
          unfold sameB; rw [Hi.out, Hh.out.nodes, Hh'.out.nodes, Hh.out.epoch, Hh'.out.epoch]; simp)
        have a2 := HA2.out.cells.2.2.1
        have b2 := HB2.out.cells.2.2.1
        go_wp2_with fail
        refine (same_any _ _ _ _ _ _ _ V.mem W.mem ((Hh.out.below Hb1.out).below HBw.out).mem ((Hh'.out.below Hb1.out).below HBw.out).mem).mono ?_
        rintro e w2 ⟨rfl, hb2⟩
        have Hb2 : Hid (Below w1.heap.size w1 w2) := Lib.hid (bnext HBw.out hb2)
        have HA3 := Lib.hid (HA.out.below Hb2.out)
        have HB3 := Lib.hid (HB.out.below Hb2.out)
        clear hb2 a2 b2 a4
        have a3 := HA3.out.cells.2.2.2.1
        have b3 := HB3.out.cells.2.2.2.1
        go_wp2_with fail
        refine (same_any _ _ _ _ _ _ _ V.dead W.dead ((Hh.out.below Hb1.out).below Hb2.out).dead ((Hh'.out.below Hb1.out).below Hb2.out).dead).mono ?_
        rintro e w3 ⟨rfl, hb3⟩
        have Hb3 : Hid (Below w1.heap.size w1 w3) := Lib.hid (bnext Hb2.out hb3)
        have HA4 := Lib.hid (HA.out.below Hb3.out)
        have HB4 := Lib.hid (HB.out.below Hb3.out)
        clear hb3 a3 b3
        have a0 := HA4.out.cells.1
        have a1 := HA4.out.cells.2.1
        have b0 := HB4.out.cells.1
        have b1 := HB4.out.cells.2.1
        have HF : Hid (Below w.heap.size w w3) := Lib.hid (bnext Hb1.out Hb3.out)
        cases s1 : sameL V.mem W.mem with
        | false =>
          have Hr : Hid (sameB V W = false) := Lib.hid (by rw [Hr0.out, s1]; rfl)
          go_wp2
          go_ret
          exact ⟨ret_bool Hr.out.symm, HF.out⟩
        | true =>
          cases s2 : sameL V.dead W.dead with
          | false =>
            have Hr : Hid (sameB V W = false) := Lib.hid (by rw [Hr0.out, s1, s2]; rfl)
            go_wp2
            go_ret
            exact ⟨ret_bool Hr.out.symm, HF.out⟩
          | true =>
            by_cases e0 : x.nodes = y.nodes
            · have e0' : (x.nodes == y.nodes) = true := beq_yes e0
              have Hr : Hid (sameB V W = (x.epoch == y.epoch)) := Lib.hid (by rw [Hr0.out, s1, s2, e0']; simp)
              clear e0
              go_wp2
              go_ret
              exact ⟨ret_bool Hr.out.symm, HF.out⟩
            · have e0' : (x.nodes == y.nodes) = false := beq_no e0
              have Hr : Hid (sameB V W = false) := Lib.hid (by rw [Hr0.out, s1, s2, e0']; simp)
              clear e0
              go_wp2
              go_ret
              exact ⟨ret_bool Hr.out.symm, HF.out⟩
theorem same_self (V : Vw) : sameB V V = true := by simp [sameB, sameL]
theorem same_eq {V W : Vw} (h : sameB V W = true) : V = W := by
  simp only [sameB, sameL, Bool.and_eq_true, decide_eq_true_eq, beq_iff_eq] at h
  obtain ⟨h1, h2, h3, h4, h5⟩ := h
  cases V; cases W
  simp_all
end Go.Proofs.Ytnbhjehaecifcaa
