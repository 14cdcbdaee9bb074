/- The document's functions over views: Chief, put. -/
import Derived.Test.YtfdbkmncgngkjaaRg06
import Derived.Test.YtfdbkmncgngkjaaKeep
namespace Go.Proofs.Ytfdbkmncgngkjaa
open Go.RowKit

/-- The least node of members, one after another. -/
def lst (a : Int) (x : Mb) : Int := if x.1 < a then x.1 else a
def lstTo : List Mb → Int
  | [] => -1
  | m :: t => t.foldl lst m.1
theorem lst_more {l : List Mb} {k : Nat} {m : Mb} (h : l[k]? = some m) (hk : 0 < k) : lstTo (l.take (k + 1)) = lst (lstTo (l.take k)) m := by
  match l, k, hk, h with
  | q :: l, k + 1, _, h =>
    rw [List.take_succ_cons, List.take_succ_cons]
    show (l.take (k + 1)).foldl lst q.1 = lst ((l.take k).foldl lst q.1) m
    rw [List.take_add_one, List.getElem?_cons_succ.symm.trans h, List.foldl_append]
    rfl
theorem lst_one {l : List Mb} {m : Mb} (h : l[0]? = some m) : lstTo (l.take 1) = m.1 := by
  match l, h with
  | q :: l, h =>
    simp at h
    subst h
    rfl
set_option maxHeartbeats 4000000 in
theorem RChief_any (w : World) (x : Vx) (V : Vw) (h : IsV w x V) (hs : V.mem.length ≤ 1000) :
    Calls Try.prog 34 #[vV x] w fun e w' => e = .returned (.int .i64 (lstTo V.mem)) ∧ Below w.heap.size w w' := by
  have Hh := Lib.hid h
  have hlen := h.mem.length
  have hn : x.mn ≤ 1000 := by omega
  clear h
  go_enter Try.func34, Try.ntmps34
  go_upto_region 1 with (fail)
  obtain ⟨w1, H_w1⟩ : ∃ w1, Hid (w.alloc (.cells (vC x) 25) = w1) := ⟨_, Lib.hid rfl⟩
  obtain ⟨b, H_b⟩ : ∃ b, Hid (w.heap.size = b) := ⟨_, Lib.hid rfl⟩
  have HX_b : Hid (BoxV w1 b x) := Lib.hid (by rw [← H_w1.out, ← H_b.out]; exact BoxV.new w x)
  have HL_w1 : Hid (Below w.heap.size w w1) := Lib.hid (by rw [← H_w1.out]; exact (Below.refl _ _).alloc (Nat.le_refl _) _)
  rw [show w.alloc (.cells #[.int .i64 x.nodes, .int .i64 x.epoch, .slice x.mA x.mn x.mc, .slice x.dA x.dn x.dc, .slice x.iA x.ir x.ic] 25) = w1 from H_w1.out]
  try rw [H_b.out]
  have HV1 := Lib.hid (Hh.out.below HL_w1.out)
  go_wp2
  go_loopw [3, 4] (fun s i wr => ∃ j : Nat, i = .int .i64 (j : Int) ∧ j ≤ x.mn ∧ s = .int .i64 (lstTo (V.mem.take j)) ∧ Hid (Below w1.heap.size w1 wr)) (fun _ i _ => x.mn - (intOf i).toNat)
  case atStart => exact ⟨0, rfl, Nat.zero_le _, rfl, Lib.hid (Below.refl _ _)⟩
  case round =>
    obtain ⟨j, rfl, hj, rfl, HB⟩ := hrel
    have HX := Lib.hid (HX_b.out.below HB.out)
    have HV := Lib.hid (HV1.out.below HB.out)
    have HBw : Hid (Below w.heap.size w wr) := Lib.hid (bnext HL_w1.out HB.out)
    obtain ⟨v0, v1, v2, v3, v4⟩ := HX.out.cells
    by_cases hlt : j < x.mn
    · have hd : decide ((j : Int) < (x.mn : Int)) = true := by simpa using hlt
      obtain ⟨g, off, eA, hg, hcs⟩ := HV.out.mem.cells (by omega)
      obtain ⟨m, hm⟩ : ∃ m, V.mem[j]? = some m := ⟨_, List.getElem?_eq_getElem (by rw [hlen]; exact hlt)⟩
      have c0 := (hcs j m hm).1
      have hix := fun w => idxM (n := x.mn) (c := x.mc) eA hlt w
      obtain ⟨a, Ha⟩ : ∃ a, Hid (lstTo (V.mem.take j) = a) := ⟨_, Lib.hid rfl⟩
      have Hm := Lib.hid hm
      rw [Ha.out]
      clear hcs hm eA
      by_cases h0 : j = 0
      · have h0' : ((j : Int) == 0) = true := beq_yes (by omega)
        have Hl : Hid (lstTo (V.mem.take (j + 1)) = m.1) := Lib.hid (by
          have := Hm.out
          rw [h0] at this ⊢
          exact lst_one this)
        clear h0
        go_wp2
        go_roundw
        case rel => exact ⟨j + 1, by go_num, by omega, by rw [Hl.out], HB⟩
        case measure => simp [intOf]; omega
      · have h0' : ((j : Int) == 0) = false := beq_no (by omega)
        have Hl : Hid (lstTo (V.mem.take (j + 1)) = lst a m) := Lib.hid (by rw [← Ha.out]; exact lst_more Hm.out (by omega))
        clear h0
        by_cases hq : m.1 < a
        · have hq' : decide (m.1 < a) = true := by simpa using hq
          have Hl2 : Hid (lst a m = m.1) := Lib.hid (if_pos hq)
          clear hq
          go_wp2
          go_roundw
          case rel => exact ⟨j + 1, by go_num, by omega, by rw [Hl.out, Hl2.out], HB⟩
          case measure => simp [intOf]; omega
        · have hq' : decide (m.1 < a) = false := by simpa using hq
          have Hl2 : Hid (lst a m = a) := Lib.hid (if_neg hq)
          clear hq
          go_wp2
          go_roundw
          case rel => exact ⟨j + 1, by go_num, by omega, by rw [Hl.out, Hl2.out], HB⟩
          case measure => simp [intOf]; omega
    · have hd : decide ((j : Int) < (x.mn : Int)) = false := by simpa using hlt
      have hk' : V.mem.take j = V.mem := List.take_of_length_le (by omega)
      rw [hk']
      go_wp2
      go_ret
      exact ⟨rfl, HBw.out⟩
end Go.Proofs.Ytfdbkmncgngkjaa
