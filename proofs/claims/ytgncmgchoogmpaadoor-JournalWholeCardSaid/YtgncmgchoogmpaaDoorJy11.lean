/- PLAIN: a journal's places while a record is written. -/
import Derived.Test.YtgncmgchoogmpaaDoorJq11
import Derived.Test.YtgncmgchoogmpaaDoorRk11
namespace Go.Proofs.YtgncmgchoogmpaaDoor
open Go.RowKit

/-- Forty places: what lies at the first and the last one. -/
structure Rgn (rg : List (List UInt8)) (H M : List UInt8) : Prop where
  len : rg.length = 40
  short : ∀ s ∈ rg, s.length ≤ 600
  head : rg.getD 0 [] = H
  last : rg.getD 39 [] = M
theorem getD_set_ne {α : Type} {l : List α} {i j : Nat} {a d : α} (h : i ≠ j) : (l.set i a).getD j d = l.getD j d := by
  rw [List.getD_eq_getElem?_getD, List.getD_eq_getElem?_getD, List.getElem?_set_ne h]
theorem getD_set_eq {α : Type} {l : List α} {i : Nat} {a d : α} (h : i < l.length) : (l.set i a).getD i d = a := by
  rw [List.getD_eq_getElem?_getD, List.getElem?_set_self h]
  rfl
theorem Rgn.shortSet {rg : List (List UInt8)} {H M : List UInt8} (h : Rgn rg H M) (k : Nat) {s : List UInt8} (hs : s.length ≤ 600) : ∀ x ∈ rg.set k s, x.length ≤ 600 := fun x hx => by
  rcases List.mem_or_eq_of_mem_set hx with hx | rfl
  · exact h.short x hx
  · exact hs
theorem Rgn.put {rg : List (List UInt8)} {H M : List UInt8} (h : Rgn rg H M) {k : Nat} (h1 : 1 ≤ k) (h2 : k ≤ 38) {s : List UInt8} (hs : s.length ≤ 600) : Rgn (rg.set k s) H M :=
  ⟨by rw [List.length_set]; exact h.len, h.shortSet k hs, by rw [getD_set_ne (by omega)]; exact h.head, by rw [getD_set_ne (by omega)]; exact h.last⟩
theorem Rgn.setH {rg : List (List UInt8)} {H M : List UInt8} (h : Rgn rg H M) {s : List UInt8} (hs : s.length ≤ 600) : Rgn (rg.set 0 s) s M :=
  ⟨by rw [List.length_set]; exact h.len, h.shortSet 0 hs, getD_set_eq (by rw [h.len]; omega), by rw [getD_set_ne (by omega)]; exact h.last⟩
theorem Rgn.setM {rg : List (List UInt8)} {H M : List UInt8} (h : Rgn rg H M) {s : List UInt8} (hs : s.length ≤ 600) : Rgn (rg.set 39 s) H s :=
  ⟨by rw [List.length_set]; exact h.len, h.shortSet 39 hs, by rw [getD_set_ne (by omega)]; exact h.head, getD_set_eq (by rw [h.len]; omega)⟩
theorem Rgn.max {rg : List (List UInt8)} {H M : List UInt8} (h : Rgn rg H M) : ∀ s ∈ rg, s.length ≤ maxLen := fun s hs => Nat.le_trans (h.short s hs) (by decide)
theorem Rgn.start : Rgn (List.replicate 40 (secS 0)) (secS 0) (secS 0) :=
  ⟨by simp, fun s hs => by rw [List.eq_of_mem_replicate hs, secS_length]; omega, by simp, by simp⟩
theorem markS_seq {s t : Nat} {l m : List Ch} (hs : s ≤ 1099511627776) (ht : t ≤ 1099511627776) (h : markS s l = markS t m) : s = t := by
  have h := fillS_inj (by rw [lineC_length]; omega) (by rw [lineC_length]; omega) h
  have h := List.append_cancel_left h
  obtain ⟨a, _⟩ := List.append_inj h (by rw [be_length, be_length])
  exact be_inj (k := 8) (by omega) (by omega) a
/-- What may lie at the last place, as long as the mark does not. -/
def Nomark (M : List UInt8) (n : Nat) : Prop := M = secS 0 ∨ ∃ o, M = markS n o
/-- Nothing above the head is found without its mark. -/
theorem noRec {rg : List (List UInt8)} {n : Nat} {M : List UInt8} (h : Rgn rg (headS n) M) (hn : n ≤ 1099511627776) (hM : Nomark M n) {s : Nat} {l : List Ch} {ok : Bool} (hr : ScanR rg s l ok) : ok = false := by
  rcases hr with ⟨_, d, r⟩ | ⟨e, _⟩
  · have hd := headS_inj hn r.dle (h.head.symm.trans r.head)
    have ha := r.above
    have hm := r.mark
    rw [h.len, show 40 - 1 = 39 from rfl, h.last] at hm
    rcases hM with rfl | ⟨o, rfl⟩
    · have e := fillS_inj (by simp) (by rw [lineC_length]; omega) hm
      have := congrArg List.length e
      rw [lineC_length] at this
      simp at this
    · have := markS_seq hn r.seqm hm
      omega
  · exact e
/-- All lines lie there, and the mark. -/
theorem wholeRec {rg : List (List UInt8)} {n : Nat} {m : List Ch} (h : Rgn rg (headS n) (markS (n + 1) m)) (hn : n + 1 ≤ 1099511627776) (hm0 : m ≠ []) (hm : m.length ≤ 20) (hr : rowB m = true)
    (hl : ∀ j s, (textsS (n + 1) m)[j]? = some s → rg.getD (1 + j) [] = s) : IsRec rg n (n + 1) m := by
  refine ⟨by rw [h.len]; omega, List.length_pos_iff.2 hm0, by omega, by omega, h.head, hl 0 _ rfl, fun i c hc => ?_, hr, by omega, hn, by omega, by rw [h.len]; exact h.last⟩
  have := hl (i + 1) c.2 (by rw [textsS, List.getElem?_cons_succ, List.getElem?_map, hc]; rfl)
  rw [← this]
  congr 1
  omega
/-- Done, it is found no more. -/
theorem lateRec {rg : List (List UInt8)} {n : Nat} {m : List Ch} {M : List UInt8} (h : Rgn rg (headS n) M) (hn : n ≤ 1099511627776) (hm : m.length ≤ 20) (hr : rowB m = true)
    (hf : rg.getD 1 [] = firstS n m) {s : Nat} {l : List Ch} {ok : Bool} (hs : ScanR rg s l ok) : ok = false := by
  rcases hs with ⟨_, d, r⟩ | ⟨e, _⟩
  · have hd := headS_inj hn r.dle (h.head.symm.trans r.head)
    have ha := r.above
    obtain ⟨e, _⟩ := lineD_inj hn r.seqm (by omega) r.n60 (fun c hc => ⟨(rowB_of hr c hc).1, (rowB_of hr c hc).2.1⟩) (fun c hc => ⟨(rowB_of r.row c hc).1, (rowB_of r.row c hc).2.1⟩) (hf.symm.trans r.first)
    omega
  · exact e
end Go.Proofs.YtgncmgchoogmpaaDoor
