/- The document's network as it lies in memory: what waits on a link, and where. -/
import Derived.Test.YtakhhpakajafkaaApp05
import Derived.Test.YtakhhpakajafkaaSame05
import Derived.Deep.DeepCutAuto
namespace Go.Proofs.Ytakhhpakajafkaa
open Go.RowKit

/-- The document's network in block c: what waits, in a row of the statement's own from block B on. -/
structure RN (w : World) (B c : Nat) (v : Value) (L : List Pcl) : Prop where
  cell : w.cell? ⟨c, 0, none⟩ = some v
  free : w.frozen? ⟨c, 0, none⟩ = false
  row : Ps B w v L
  ne : v.ownBlock ≠ some c
  len : L.length ≤ 12800
theorem RN.lt {w : World} {B c : Nat} {v : Value} {L : List Pcl} (h : RN w B c v L) : c < w.heap.size := lt_of_cell h.cell
theorem RN.later {S : Nat → Prop} {w w' : World} {B c : Nat} {v : Value} {L : List Pcl} (h : RN w B c v L) (m : Mod S w w') (hc : ¬ S c) (hv : ∀ g, v.ownBlock = some g → ¬ S g) : RN w' B c v L :=
  ⟨(m.cell (p := ⟨c, 0, none⟩) h.lt hc).trans h.cell, (m.frozen (p := ⟨c, 0, none⟩) h.lt hc).trans h.free, h.row.later m hv, h.ne, h.len⟩
theorem RN.below {w w' : World} {B c : Nat} {v : Value} {L : List Pcl} (h : RN w B c v L) (m : Below w.heap.size w w') : RN w' B c v L := h.later (Mod.of_below (S := fun _ => False) m) id (fun _ _ => id)
/-- Is it on that link? -/
def onB (i j : Int) (p : Pcl) : Bool := p.1 == i && p.2.1 == j
def cntR (L : List Pcl) (i j : Int) : Nat := (L.filter (onB i j)).length
theorem cntR_le (L : List Pcl) (i j : Int) : cntR L i j ≤ L.length := List.length_filter_le _ _
theorem take_cnt {L : List Pcl} {k : Nat} (h : k < L.length) (i j : Int) : cntR (L.take (k + 1)) i j = cntR (L.take k) i j + (if onB i j L[k] = true then 1 else 0) := by
  rw [cntR, filter_next _ h, List.length_append]
  split <;> rfl
theorem link_any (w : World) (i j : Int) :
    Calls Try.prog 43 #[.int .i64 i, .int .i64 j] w fun e w' => e = .returned (.bool (linkB i j)) ∧ w = w' := by
  by_cases h1 : 0 ≤ i ∧ i < 8
  · obtain ⟨a1, a2⟩ := h1
    by_cases h2 : 0 ≤ j ∧ j < 8
    · obtain ⟨b1, b2⟩ := h2
      have e : Hid (linkB i j = !(i == j)) := Lib.hid (by simp [linkB, nodeB, a1, a2, b1, b2])
      cases hc : (i == j) with
      | true =>
        rw [hc] at e
        go_enter Try.func43, Try.ntmps43
        go_wp2
        go_ret
        exact ⟨ret_bool (by rw [e.out]; first | rfl | simp_all), rfl⟩
      | false =>
        rw [hc] at e
        go_enter Try.func43, Try.ntmps43
        go_wp2
        go_ret
        exact ⟨ret_bool (by rw [e.out]; first | rfl | simp_all), rfl⟩
    · have e : Hid (linkB i j = false) := Lib.hid (by simp [linkB, nodeB]; omega)
      go_enter Try.func43, Try.ntmps43
      go_wp2
      all_goals
        go_ret
        exact ⟨ret_bool (by rw [e.out] <;> first | rfl | (simp; done) | (simp; omega)), rfl⟩
  · have e : Hid (linkB i j = false) := Lib.hid (by simp [linkB, nodeB]; omega)
    go_enter Try.func43, Try.ntmps43
    go_wp2
    all_goals
      go_ret
      exact ⟨ret_bool (by rw [e.out] <;> first | rfl | (simp; done) | (simp; omega)), rfl⟩
set_option maxHeartbeats 1000000 in
theorem WaitsR {w : World} {B c : Nat} {v : Value} {L : List Pcl} (h : RN w B c v L) (i j : Int) :
    Calls Try.prog 28 #[.pointer (some ⟨c, 0, none⟩), .int .i64 i, .int .i64 j] w fun e w' => e = .returned (.int .i64 (cntR L i j : Int)) ∧ w = w' := by
  obtain ⟨a, cap, rfl⟩ := h.row.slice
  have Hh := Lib.hid h
  have hc := h.cell
  have hlen := h.len
  have Hend : Hid (cntR (L.take L.length) i j = cntR L i j) := Lib.hid (by rw [List.take_length])
  obtain ⟨n, Hn⟩ : ∃ n, Hid (L.length = n) := ⟨_, Lib.hid rfl⟩
  rw [Hn.out] at hc hlen Hend
  obtain ⟨C, HC⟩ : ∃ C, Hid (cntR L i j = C) := ⟨_, Lib.hid rfl⟩
  rw [HC.out] at Hend ⊢
  clear h
  go_enter Try.func28, Try.ntmps28
  go_wp2
  go_loop [7, 8] (fun kv iv => ∃ k m : Nat, iv = .int .i64 (k : Int) ∧ k ≤ n ∧ kv = .int .i64 (m : Int) ∧ m ≤ k ∧ Hid (cntR (L.take k) i j = m)) (fun _ iv => n - (intOf iv).toNat)
  case atStart => exact ⟨0, 0, rfl, Nat.zero_le _, rfl, Nat.le_refl _, Lib.hid (by simp [cntR])⟩
  case round =>
    obtain ⟨k, m, rfl, hk, rfl, hm, HM⟩ := hrel
    by_cases hlt : k < n
    · have hlt' : (k : Int) < (n : Int) := by omega
      obtain ⟨g, c1, e1, _, a0, a1, _⟩ := Hh.out.row.cells (i := k) (by rw [Hn.out]; exact hlt)
      injection e1 with e1 _ e1c
      subst e1 e1c
      have Hs := Lib.hid (take_cnt (L := L) (k := k) (by rw [Hn.out]; exact hlt) i j)
      obtain ⟨p, Hp⟩ : ∃ p, Hid (L[k]'(by rw [Hn.out]; exact hlt) = p) := ⟨_, Lib.hid rfl⟩
      rw [Hp.out] at a0 a1 Hs
      rw [HM.out] at Hs
      cases q1 : (p.1 == i) with
      | false =>
        have HM2 : Hid (cntR (L.take (k + 1)) i j = m) := Lib.hid (by rw [Hs.out, onB, q1]; simp)
        clear Hs
        go_wp2
        go_round
        case rel => exact ⟨k + 1, m, by go_num, by omega, rfl, by omega, HM2⟩
        case measure => simp [intOf]; omega
      | true =>
        cases q2 : (p.2.1 == j) with
        | false =>
          have HM2 : Hid (cntR (L.take (k + 1)) i j = m) := Lib.hid (by rw [Hs.out, onB, q1, q2]; simp)
          clear Hs
          go_wp2
          go_round
          case rel => exact ⟨k + 1, m, by go_num, by omega, rfl, by omega, HM2⟩
          case measure => simp [intOf]; omega
        | true =>
          have HM2 : Hid (cntR (L.take (k + 1)) i j = m + 1) := Lib.hid (by rw [Hs.out, onB, q1, q2]; simp)
          clear Hs
          go_wp2
          go_round
          case rel => exact ⟨k + 1, m + 1, by go_num, by omega, by go_num, by omega, HM2⟩
          case measure => simp [intOf]; omega
    · obtain rfl : k = n := by omega
      have HM2 : Hid (m = C) := Lib.hid (by rw [← HM.out, Hend.out])
      go_wp2
      go_ret
      exact ⟨ret_int (by rw [HM2.out]), rfl⟩
theorem which_any (w : World) {x : Int} (hx : (Lit.int .i64 x).wf = true) {n : Nat} (h0 : 0 < n) (hn : n ≤ 12800) :
    Calls Try.prog 38 #[.int .i64 x, .int .i64 (n : Int)] w fun e w' => e = .returned (.int .i64 (wh x n : Int)) ∧ w = w' := by
  obtain ⟨hw1, hw2⟩ := wf_bounds hx
  have hne : ((n : Int) == 0) = false := beq_no (by omega)
  by_cases hneg : x < 0
  · have e1 : (-(x + 1)).tmod (n : Int) = ((wh x n : Nat) : Int) := by rw [Int.neg_tmod, wh_neg hneg]
    go_enter Try.func38, Try.ntmps38
    go_wp2
    go_ret
    exact ⟨ret_int (by first | rfl | exact e1 | (rw [← e1, Int.tmod_eq_emod_of_nonneg (by omega)])), rfl⟩
  · have e1 := wh_pos (show 0 ≤ x by omega) n
    go_enter Try.func38, Try.ntmps38
    go_wp2
    go_ret
    exact ⟨ret_int (by first | rfl | exact e1), rfl⟩
/-- The place, among all, of the m-th one of a link. -/
def Spot (L : List Pcl) (i j : Int) (m p : Nat) : Prop := ∃ h : p < L.length, onB i j L[p] = true ∧ cntR (L.take p) i j = m
theorem cnt_mono (L : List Pcl) (i j : Int) {a b : Nat} (h : a ≤ b) : cntR (L.take a) i j ≤ cntR (L.take b) i j := by
  have e : L.take b = L.take a ++ (L.drop a).take (b - a) := by
    have := List.take_add (l := L) (i := a) (j := b - a)
    rw [Nat.add_sub_cancel' h] at this
    exact this
  rw [e, cntR, cntR, List.filter_append, List.length_append]
  omega
def PlaceR (w : World) (L : List Pcl) (i j x : Int) (e : Ending) (w' : World) : Prop :=
  w = w' ∧ ((cntR L i j = 0 ∧ e = .returned (.int .i64 (-1))) ∨ ∃ p : Nat, 0 < cntR L i j ∧ Spot L i j (wh x (cntR L i j)) p ∧ e = .returned (.int .i64 (p : Int)))
set_option maxHeartbeats 2000000 in
theorem place_any {w : World} {B c : Nat} {v : Value} {L : List Pcl} (h : RN w B c v L) (i j : Int) {x : Int} (hx : (Lit.int .i64 x).wf = true) :
    Calls Try.prog 33 #[.pointer (some ⟨c, 0, none⟩), .int .i64 i, .int .i64 j, .int .i64 x] w (PlaceR w L i j x) := by
  obtain ⟨a, cap, rfl⟩ := h.row.slice
  have Hh := Lib.hid h
  have hc := h.cell
  have hlen := h.len
  have hcl := cntR_le L i j
  have Hend : Hid (cntR (L.take L.length) i j = cntR L i j) := Lib.hid (by rw [List.take_length])
  have Hmono : Hid (∀ a b, a ≤ b → cntR (L.take a) i j ≤ cntR (L.take b) i j) := Lib.hid (fun a b hab => cnt_mono L i j hab)
  obtain ⟨n, Hn⟩ : ∃ n, Hid (L.length = n) := ⟨_, Lib.hid rfl⟩
  rw [Hn.out] at hc hlen Hend hcl
  obtain ⟨C, HC⟩ : ∃ C, Hid (cntR L i j = C) := ⟨_, Lib.hid rfl⟩
  rw [HC.out] at Hend hcl
  obtain ⟨W, HW⟩ : ∃ W, Hid (wh x C = W) := ⟨_, Lib.hid rfl⟩
  clear h
  by_cases hC0 : C = 0
  · have q0 : ((C : Int) == 0) = true := beq_yes (by omega)
    go_enter Try.func33, Try.ntmps33
    go_wp2_with fail
    refine (WaitsR Hh.out i j).mono ?_
    rw [HC.out]
    rintro e w1 ⟨rfl, rfl⟩
    go_wp2
    go_ret
    exact ⟨rfl, .inl ⟨by rw [HC.out, hC0], rfl⟩⟩
  · have q0 : ((C : Int) == 0) = false := beq_no (by omega)
    have hWC : W < C := by rw [← HW.out]; exact wh_lt x (by omega)
    have HC0 := Lib.hid hC0
    clear hC0
    go_enter Try.func33, Try.ntmps33
    go_wp2_with fail
    refine (WaitsR Hh.out i j).mono ?_
    rw [HC.out]
    rintro e w1 ⟨rfl, rfl⟩
    go_wp2_with fail
    refine (which_any _ hx (by omega) (by omega)).mono ?_
    rw [HW.out]
    rintro e w1 ⟨rfl, rfl⟩
    go_wp2
    go_loop [10, 11] (fun lv iv => ∃ k m : Nat, iv = .int .i64 (k : Int) ∧ k ≤ n ∧ lv = .int .i64 (m : Int) ∧ m ≤ W ∧ Hid (cntR (L.take k) i j + m = W)) (fun _ iv => n - (intOf iv).toNat)
    case atStart => exact ⟨0, W, rfl, Nat.zero_le _, rfl, Nat.le_refl _, Lib.hid (by simp [cntR])⟩
    case round =>
      obtain ⟨k, m, rfl, hk, rfl, hm, HM⟩ := hrel
      by_cases hlt : k < n
      · have hlt' : (k : Int) < (n : Int) := by omega
        obtain ⟨g, c1, e1, _, a0, a1, _⟩ := Hh.out.row.cells (i := k) (by rw [Hn.out]; exact hlt)
        injection e1 with e1 _ e1c
        subst e1 e1c
        have Hs := Lib.hid (take_cnt (L := L) (k := k) (by rw [Hn.out]; exact hlt) i j)
        obtain ⟨p, Hp⟩ : ∃ p, Hid (L[k]'(by rw [Hn.out]; exact hlt) = p) := ⟨_, Lib.hid rfl⟩
        rw [Hp.out] at a0 a1 Hs
        cases q1 : (p.1 == i) with
        | false =>
          have HM2 : Hid (cntR (L.take (k + 1)) i j + m = W) := Lib.hid (by rw [Hs.out, onB, q1]; have := HM.out; simp; omega)
          clear Hs
          go_wp2
          go_round
          case rel => exact ⟨k + 1, m, by go_num, by omega, rfl, hm, HM2⟩
          case measure => simp [intOf]; omega
        | true =>
          cases q2 : (p.2.1 == j) with
          | false =>
            have HM2 : Hid (cntR (L.take (k + 1)) i j + m = W) := Lib.hid (by rw [Hs.out, onB, q1, q2]; have := HM.out; simp; omega)
            clear Hs
            go_wp2
            go_round
            case rel => exact ⟨k + 1, m, by go_num, by omega, rfl, hm, HM2⟩
            case measure => simp [intOf]; omega
          | true =>
            have Hon : Hid (onB i j p = true) := Lib.hid (by rw [onB, q1, q2]; rfl)
            by_cases hm0 : m = 0
            · subst hm0
              clear Hs
              go_wp2
              go_ret
              exact ⟨rfl, .inr ⟨k, by rw [HC.out]; have := HC0.out; omega, ⟨by rw [Hn.out]; exact hlt, by rw [Hp.out]; exact Hon.out, by rw [HC.out, HW.out]; have := HM.out; omega⟩, rfl⟩⟩
            · have hm0' : ((m : Int) == 0) = false := beq_no (by omega)
              have HM2 : Hid (cntR (L.take (k + 1)) i j + (m - 1) = W) := Lib.hid (by rw [Hs.out, Hon.out]; have := HM.out; simp; omega)
              clear Hs
              have em : (m : Int) - 1 = ((m - 1 : Nat) : Int) := by omega
              obtain ⟨m1, Hm1⟩ : ∃ m1, Hid (m - 1 = m1) := ⟨_, Lib.hid rfl⟩
              rw [Hm1.out] at em HM2
              go_wp2
              go_round
              case rel => exact ⟨k + 1, m1, by go_num, by omega, by first | rfl | go_num, by have := Hm1.out; omega, HM2⟩
              case measure => simp [intOf]; omega
      · obtain rfl : k = n := by omega
        exfalso
        have h1 := HM.out
        have h2 := Hend.out
        omega
theorem spot_part {L : List Pcl} {i j : Int} {m p : Nat} (h : Spot L i j m p) : ∃ hp : p < L.length, L.filter (onB i j) = (L.take p).filter (onB i j) ++ L[p] :: (L.drop (p + 1)).filter (onB i j) ∧ ((L.take p).filter (onB i j)).length = m := by
  obtain ⟨hp, h1, h2⟩ := h
  refine ⟨hp, ?_, h2⟩
  have e : L = L.take p ++ L[p] :: L.drop (p + 1) := by simp
  conv => lhs; rw [e]
  rw [List.filter_append, List.filter_cons_of_pos h1]
theorem erase_part (L : List Pcl) (p : Nat) : L.eraseIdx p = L.take p ++ L.drop (p + 1) := List.eraseIdx_eq_take_drop_succ _ _
theorem spot_erase {L : List Pcl} {i j : Int} {m p : Nat} (h : Spot L i j m p) : (L.eraseIdx p).filter (onB i j) = (L.filter (onB i j)).eraseIdx m := by
  obtain ⟨hp, h1, h2⟩ := spot_part h
  rw [erase_part, h1, List.filter_append, List.eraseIdx_append_of_length_le (by omega), ← h2, Nat.sub_self]
  rfl
theorem spot_get {L : List Pcl} {i j : Int} {m p : Nat} (h : Spot L i j m p) : (L.filter (onB i j))[m]? = L[p]? := by
  obtain ⟨hp, h1, h2⟩ := spot_part h
  rw [h1, List.getElem?_append_right (by omega), ← h2, Nat.sub_self, List.getElem?_eq_getElem hp]
  rfl
theorem erase_other {L : List Pcl} {i j : Int} {p : Nat} (hp : p < L.length) (h : onB i j L[p] = false) : (L.eraseIdx p).filter (onB i j) = L.filter (onB i j) := by
  have e : L = L.take p ++ L[p] :: L.drop (p + 1) := by simp
  rw [erase_part]
  conv => rhs; rw [e]
  rw [List.filter_append, List.filter_append, List.filter_cons_of_neg (by rw [h]; decide)]
end Go.Proofs.Ytakhhpakajafkaa
