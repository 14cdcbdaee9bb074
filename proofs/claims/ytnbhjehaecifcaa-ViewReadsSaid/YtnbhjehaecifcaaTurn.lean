/- A view turned: nobody is ready, its number is one more; a member dies. -/
import Derived.Test.YtnbhjehaecifcaaCut
namespace Go.Proofs.Ytnbhjehaecifcaa
open Go.RowKit

def unr (m : Mb) : Mb := (m.1, m.2.1, false)
def unrTo (k : Nat) (l : List Mb) : List Mb := (l.take k).map unr ++ l.drop k
theorem unrTo_get (l : List Mb) (k : Nat) : (unrTo k l)[k]? = l[k]? := by
  unfold unrTo
  rcases Nat.lt_or_ge k l.length with h | h
  · rw [List.getElem?_append_right (by simp; omega), List.length_map, List.length_take, Nat.min_eq_left (by omega), Nat.sub_self, List.getElem?_drop, Nat.add_zero]
  · rw [List.getElem?_eq_none (by simp; omega), List.getElem?_eq_none h]
theorem unrTo_set (l : List Mb) (k : Nat) (m : Mb) (h : l[k]? = some m) : (unrTo k l).set k (m.1, m.2.1, false) = unrTo (k + 1) l := by
  obtain ⟨hk, e⟩ := List.getElem?_eq_some_iff.1 h
  have hl : ((l.take k).map unr).length = k := by simp; omega
  unfold unrTo
  rw [List.set_append_right _ _ (by omega), hl, Nat.sub_self, List.drop_eq_getElem_cons hk, List.set_cons_zero, List.take_succ_eq_append_getElem hk, List.map_append, e]
  simp [unr]
theorem unrTo_length (k : Nat) (l : List Mb) : (unrTo k l).length = l.length := by
  unfold unrTo
  rw [List.length_append, List.length_map, List.length_take, List.length_drop]
  omega
theorem unrTo_end (l : List Mb) {k : Nat} (h : l.length ≤ k) : unrTo k l = l.map unr := by
  unfold unrTo
  rw [List.take_of_length_le h, List.drop_eq_nil_of_le h, List.append_nil]
set_option maxHeartbeats 2000000 in
theorem turn_any (w : World) (B b r : Nat) (x : Vx) (V : Vw) (h : Ow w B b r x V) (he0 : 0 ≤ V.epoch) (he1 : V.epoch < 1099511627776) :
    Calls Try.prog 46 #[.pointer (some ⟨b, 0, none⟩)] w fun e w' => e = .returned (.tuple #[]) ∧ ∃ x', Ow w' B b r x' { V with mem := V.mem.map unr, epoch := V.epoch + 1 } ∧ Below B w w' := by
  have hn := h.mem.isL.small
  have hlen := RowM.len h.mem
  have hep := h.epoch
  rw [← hep] at he0 he1
  have Hep := Lib.hid hep
  have Hlen := Lib.hid hlen
  have Hh := Lib.hid h
  obtain ⟨v0, v1, v2, v3, v4⟩ := h.box.cells
  clear h hep hlen
  go_enter Try.func46, Try.ntmps46
  go_wp2
  clear v0 v1 v2 v3 v4
  go_loopw [2, 8] (fun _ i wr => ∃ k : Nat, i = .int .i64 (k : Int) ∧ k ≤ x.mn ∧ Hid (Ow wr B b r x { V with mem := unrTo k V.mem }) ∧ Hid (Below B w wr)) (fun _ i _ => x.mn - (intOf i).toNat)
  case atStart => exact ⟨0, rfl, Nat.zero_le _, Hh, Lib.hid (Below.refl _ _)⟩
  case round =>
    obtain ⟨k, rfl, hk, HO, HB⟩ := hrel
    obtain ⟨v0, v1, v2, v3, v4⟩ := HO.out.box.cells
    by_cases hlt : k < x.mn
    · obtain ⟨g, off, eA, hg, hc⟩ := HO.out.mem.isL.cells (by omega)
      obtain ⟨m, hm⟩ : ∃ m, V.mem[k]? = some m := ⟨_, List.getElem?_eq_getElem (by rw [Hlen.out]; exact hlt)⟩
      have hm' : (unrTo k V.mem)[k]? = some m := by rw [unrTo_get]; exact hm
      have c2 := (hc k m hm').2.2
      have hfr : wr.frozen? ⟨g, off + k * 3 + 2, none⟩ = false := by
        have hr := HO.out.mem
        rw [eA] at hr
        obtain ⟨_, q1, _, _, _, q5⟩ := Row.cells' hr
        have := q5 (k * 3 + 2) (by omega)
        rwa [← Nat.add_assoc] at this
      have HO2 : Hid (Ow (wr.setCell ⟨g, off + k * 3 + 2, none⟩ (.bool false)) B b r x { V with mem := unrTo (k + 1) V.mem }) := Lib.hid (by
        have := HO.out.ready eA hm' false
        rw [unrTo_set _ _ _ hm] at this
        exact this)
      have HB2 : Hid (Below B w (wr.setCell ⟨g, off + k * 3 + 2, none⟩ (.bool false))) := Lib.hid (HB.out.setCell (by
        show B ≤ g
        exact (HO.out.newM g (by rw [mS, eA]; rfl)).1) _)
      rw [eA] at v2
      clear eA hc hm hm'
      go_wp2
      go_roundw
      case rel => exact ⟨k + 1, by go_num, by omega, HO2, HB2⟩
      case measure => simp [intOf]; omega
    · obtain rfl : x.mn = k := by omega
      have f1 := HO.out.box.free 1
      have HO2 : Hid (Ow (wr.setCell ⟨b, 1, none⟩ (.int .i64 (x.epoch + 1))) B b r { x with epoch := x.epoch + 1 } { V with mem := V.mem.map unr, epoch := V.epoch + 1 }) := Lib.hid (by
        have := HO.out.num (x.epoch + 1)
        rw [unrTo_end _ (by rw [Hlen.out]; exact Nat.le_refl _)] at this
        have e := Hep.out
        rw [e] at this ⊢
        exact this)
      have HB2 : Hid (Below B w (wr.setCell ⟨b, 1, none⟩ (.int .i64 (x.epoch + 1)))) := Lib.hid (HB.out.setCell HO.out.lt _)
      go_wp2
      go_end0
      exact ⟨rfl, _, HO2.out, HB2.out⟩
end Go.Proofs.Ytnbhjehaecifcaa
