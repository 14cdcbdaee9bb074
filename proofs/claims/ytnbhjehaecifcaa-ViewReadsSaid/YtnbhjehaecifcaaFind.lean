
/- Closures that ask of a member, and which is the first member that is so. -/
import Derived.Test.YtnbhjehaecifcaaVw
namespace Go.Proofs.Ytnbhjehaecifcaa
open Go.RowKit

/-! ### of, behind, is -/
def pOf (node : Int) (m : Mb) : Bool := m.1 == node
def pBehind (node : Int) (m : Mb) : Bool := decide (node < m.1)
def pIs (node inc : Int) (m : Mb) : Bool := m.1 == node && m.2.1 == inc
theorem of_run (q : Nat) (node : Int) (m : Mb) (w : World) (h : w.cell? ⟨q, 0, none⟩ = some (.int .i64 node)) :
    Calls Try.prog 62 #[mbV m, .pointer (some ⟨q, 0, none⟩)] w fun e w' => e = .returned (.bool (pOf node m)) ∧ Below w.heap.size w w' := by
  have hq := lt_of_cell h
  go_enter Try.func62, Try.ntmps62
  go_wp2
  go_ret
  exact ⟨rfl, (Below.refl _ _).alloc (Nat.le_refl _) _⟩
theorem behind_run (q : Nat) (node : Int) (m : Mb) (w : World) (h : w.cell? ⟨q, 0, none⟩ = some (.int .i64 node)) :
    Calls Try.prog 63 #[mbV m, .pointer (some ⟨q, 0, none⟩)] w fun e w' => e = .returned (.bool (pBehind node m)) ∧ Below w.heap.size w w' := by
  have hq := lt_of_cell h
  go_enter Try.func63, Try.ntmps63
  go_wp2
  go_ret
  exact ⟨rfl, (Below.refl _ _).alloc (Nat.le_refl _) _⟩
theorem is_run (q r : Nat) (node inc : Int) (m : Mb) (w : World) (h : w.cell? ⟨q, 0, none⟩ = some (.int .i64 node)) (h2 : w.cell? ⟨r, 0, none⟩ = some (.int .i64 inc)) :
    Calls Try.prog 68 #[mbV m, .pointer (some ⟨q, 0, none⟩), .pointer (some ⟨r, 0, none⟩)] w fun e w' => e = .returned (.bool (pIs node inc m)) ∧ Below w.heap.size w w' := by
  have hq := lt_of_cell h
  have hr := lt_of_cell h2
  by_cases e1 : m.1 = node
  · have e2 : (m.1 == node) = true := by simp [e1]
    have Hp : Hid (pIs node inc m = (m.2.1 == inc)) := Lib.hid (by simp [pIs, e1])
    clear e1
    go_enter Try.func68, Try.ntmps68
    go_wp2
    go_ret
    exact ⟨ret_bool Hp.out.symm, ((Below.refl _ _).alloc (Nat.le_refl _) _)⟩
  · have e2 : (m.1 == node) = false := by simpa using e1
    have Hp : Hid (pIs node inc m = false) := Lib.hid (by simp [pIs, e1])
    clear e1
    go_enter Try.func68, Try.ntmps68
    go_wp2
    go_ret
    exact ⟨ret_bool Hp.out.symm, ((Below.refl _ _).alloc (Nat.le_refl _) _)⟩
theorem of_any (node : Int) (w : World) :
    Calls Try.prog 42 #[.int .i64 node] w fun e w' => ∃ q, e = .returned (.func (.func 62) #[] #[.pointer (some ⟨q, 0, none⟩)]) ∧ Below w.heap.size w w' ∧ Clos w' 62 [.pointer (some ⟨q, 0, none⟩)] (pOf node) := by
  go_enter Try.func42, Try.ntmps42
  go_wp2
  go_ret
  refine ⟨_, rfl, (Below.refl _ _).alloc (Nat.le_refl _) _, ⟨fun u hu m => of_run _ node m u ?_⟩⟩
  rw [hu.cell (by simp)]
  simp [go_sem]
theorem behind_any (node : Int) (w : World) :
    Calls Try.prog 44 #[.int .i64 node] w fun e w' => ∃ q, e = .returned (.func (.func 63) #[] #[.pointer (some ⟨q, 0, none⟩)]) ∧ Below w.heap.size w w' ∧ Clos w' 63 [.pointer (some ⟨q, 0, none⟩)] (pBehind node) := by
  go_enter Try.func44, Try.ntmps44
  go_wp2
  go_ret
  refine ⟨_, rfl, (Below.refl _ _).alloc (Nat.le_refl _) _, ⟨fun u hu m => behind_run _ node m u ?_⟩⟩
  rw [hu.cell (by simp)]
  simp [go_sem]
theorem is_any (node inc : Int) (w : World) :
    Calls Try.prog 55 #[.int .i64 node, .int .i64 inc] w fun e w' => ∃ q r, e = .returned (.func (.func 68) #[] #[.pointer (some ⟨q, 0, none⟩), .pointer (some ⟨r, 0, none⟩)]) ∧ Below w.heap.size w w' ∧ Clos w' 68 [.pointer (some ⟨q, 0, none⟩), .pointer (some ⟨r, 0, none⟩)] (pIs node inc) := by
  go_enter Try.func55, Try.ntmps55
  go_wp2
  go_ret
  refine ⟨_, _, rfl, ((Below.refl _ _).alloc (Nat.le_refl _) _).alloc (by simp) _, ⟨fun u hu m => is_run _ _ node inc m u ?_ ?_⟩⟩
  · rw [hu.cell (by simp; omega)]
    simp [go_sem]
  · rw [hu.cell (by simp)]
    simp [go_sem]
set_option maxHeartbeats 1000000 in
theorem find_of (w : World) (A : Option Addr) (n c : Nat) (l : List Mb) (h : IsL w A n c l) (q : Value) (p : Mb → Bool) (hp : Clos w 62 [q] p) :
    Calls Try.prog 41 #[.slice A n c, .func (.func 62) #[] #[q]] w fun e w' => e = .returned (.int .i64 (l.findIdx p : Nat)) ∧ Below w.heap.size w w' := by
  have hn := h.small
  have Hh := Lib.hid h
  have Hp := Lib.hid hp
  obtain ⟨F, HF⟩ : ∃ F, Hid (l.findIdx p = F) := ⟨_, Lib.hid rfl⟩
  rw [HF.out]
  clear h hp
  go_enter Try.func41, Try.ntmps41
  go_wp2
  go_loopw [5, 6, 9] (fun _ _ i wr => ∃ k : Nat, i = .int .i64 (k : Int) ∧ k ≤ n ∧ Hid (k ≤ F) ∧ Hid (Below w.heap.size w wr)) (fun _ _ i _ => n - (intOf i).toNat)
  case atStart => exact ⟨0, rfl, Nat.zero_le _, Lib.hid (Nat.zero_le _), Lib.hid (Below.refl _ _)⟩
  case round =>
    obtain ⟨i, rfl, hi, HI, HB⟩ := hrel
    by_cases hlt : i < n
    · obtain ⟨g, off, rfl, hg, hc⟩ := (Hh.out.below HB.out).cells (by omega)
      obtain ⟨m, hm⟩ : ∃ m, l[i]? = some m := ⟨_, List.getElem?_eq_getElem (by rw [Hh.out.length]; exact hlt)⟩
      obtain ⟨c0, c1, c2⟩ := hc i m hm
      have Hm := Lib.hid hm
      clear hc hm
      go_wp2_with fail
      refine ((Hp.out.run _ (balloc HB.out _) m)).mono ?_
      rintro e w2 ⟨rfl, hb⟩
      have HB2 : Hid (Below w.heap.size w w2) := Lib.hid (bnext (balloc HB.out _) hb)
      clear hb
      cases hpm : p m with
      | true =>
        have HI2 : Hid (F = i) := Lib.hid (by rw [← HF.out]; exact fi_stop (by rw [HF.out]; exact HI.out) Hm.out hpm)
        clear hpm
        go_wp2
        go_ret
        exact ⟨ret_int (congrArg (fun n : Nat => (n : Int)) HI2.out.symm), HB2.out⟩
      | false =>
        have HI2 : Hid (i + 1 ≤ F) := Lib.hid (by rw [← HF.out]; exact fi_step (by rw [HF.out]; exact HI.out) Hm.out hpm)
        clear hpm
        go_wp2
        go_roundw
        case rel => exact ⟨i + 1, by go_num, by omega, HI2, HB2⟩
        case measure => simp [intOf]; omega
    · obtain rfl : i = n := by omega
      have HI2 : Hid (F = i) := Lib.hid (by rw [← HF.out]; exact fi_end Hh.out.length (by rw [HF.out]; exact HI.out))
      go_wp2
      go_ret
      exact ⟨ret_int (congrArg (fun n : Nat => (n : Int)) HI2.out.symm), HB.out⟩
theorem some_of (w : World) (A : Option Addr) (n c : Nat) (l : List Mb) (h : IsL w A n c l) (q : Value) (p : Mb → Bool) (hp : Clos w 62 [q] p) :
    Calls Try.prog 47 #[.slice A n c, .func (.func 62) #[] #[q]] w fun e w' => e = .returned (.bool (l.any p)) ∧ Below w.heap.size w w' := by
  have hn := h.small
  obtain ⟨F, HF⟩ : ∃ F, Hid (l.findIdx p = F) := ⟨_, Lib.hid rfl⟩
  have Hd : Hid (decide (F < n) = l.any p) := Lib.hid (by rw [← HF.out, ← h.length, Bool.eq_iff_iff, decide_eq_true_eq]; exact fi_some l p)
  have Hf := Lib.hid (find_of w A n c l h q p hp)
  clear h hp
  go_enter Try.func47, Try.ntmps47
  go_wp2_with fail
  refine Hf.out.mono ?_
  rw [HF.out]
  rintro e w2 ⟨rfl, hb⟩
  have Hb := Lib.hid hb
  clear hb
  go_wp2
  go_ret
  exact ⟨ret_bool Hd.out, Hb.out⟩
set_option maxHeartbeats 1000000 in
theorem find_behind (w : World) (A : Option Addr) (n c : Nat) (l : List Mb) (h : IsL w A n c l) (q : Value) (p : Mb → Bool) (hp : Clos w 63 [q] p) :
    Calls Try.prog 41 #[.slice A n c, .func (.func 63) #[] #[q]] w fun e w' => e = .returned (.int .i64 (l.findIdx p : Nat)) ∧ Below w.heap.size w w' := by
  have hn := h.small
  have Hh := Lib.hid h
  have Hp := Lib.hid hp
  obtain ⟨F, HF⟩ : ∃ F, Hid (l.findIdx p = F) := ⟨_, Lib.hid rfl⟩
  rw [HF.out]
  clear h hp
  go_enter Try.func41, Try.ntmps41
  go_wp2
  go_loopw [5, 6, 9] (fun _ _ i wr => ∃ k : Nat, i = .int .i64 (k : Int) ∧ k ≤ n ∧ Hid (k ≤ F) ∧ Hid (Below w.heap.size w wr)) (fun _ _ i _ => n - (intOf i).toNat)
  case atStart => exact ⟨0, rfl, Nat.zero_le _, Lib.hid (Nat.zero_le _), Lib.hid (Below.refl _ _)⟩
  case round =>
    obtain ⟨i, rfl, hi, HI, HB⟩ := hrel
    by_cases hlt : i < n
    · obtain ⟨g, off, rfl, hg, hc⟩ := (Hh.out.below HB.out).cells (by omega)
      obtain ⟨m, hm⟩ : ∃ m, l[i]? = some m := ⟨_, List.getElem?_eq_getElem (by rw [Hh.out.length]; exact hlt)⟩
      obtain ⟨c0, c1, c2⟩ := hc i m hm
      have Hm := Lib.hid hm
      clear hc hm
      go_wp2_with fail
      refine ((Hp.out.run _ (balloc HB.out _) m)).mono ?_
      rintro e w2 ⟨rfl, hb⟩
      have HB2 : Hid (Below w.heap.size w w2) := Lib.hid (bnext (balloc HB.out _) hb)
      clear hb
      cases hpm : p m with
      | true =>
        have HI2 : Hid (F = i) := Lib.hid (by rw [← HF.out]; exact fi_stop (by rw [HF.out]; exact HI.out) Hm.out hpm)
        clear hpm
        go_wp2
        go_ret
        exact ⟨ret_int (congrArg (fun n : Nat => (n : Int)) HI2.out.symm), HB2.out⟩
      | false =>
        have HI2 : Hid (i + 1 ≤ F) := Lib.hid (by rw [← HF.out]; exact fi_step (by rw [HF.out]; exact HI.out) Hm.out hpm)
        clear hpm
        go_wp2
        go_roundw
        case rel => exact ⟨i + 1, by go_num, by omega, HI2, HB2⟩
        case measure => simp [intOf]; omega
    · obtain rfl : i = n := by omega
      have HI2 : Hid (F = i) := Lib.hid (by rw [← HF.out]; exact fi_end Hh.out.length (by rw [HF.out]; exact HI.out))
      go_wp2
      go_ret
      exact ⟨ret_int (congrArg (fun n : Nat => (n : Int)) HI2.out.symm), HB.out⟩
set_option maxHeartbeats 1000000 in
theorem find_is (w : World) (A : Option Addr) (n c : Nat) (l : List Mb) (h : IsL w A n c l) (q r : Value) (p : Mb → Bool) (hp : Clos w 68 [q, r] p) :
    Calls Try.prog 41 #[.slice A n c, .func (.func 68) #[] #[q, r]] w fun e w' => e = .returned (.int .i64 (l.findIdx p : Nat)) ∧ Below w.heap.size w w' := by
  have hn := h.small
  have Hh := Lib.hid h
  have Hp := Lib.hid hp
  obtain ⟨F, HF⟩ : ∃ F, Hid (l.findIdx p = F) := ⟨_, Lib.hid rfl⟩
  rw [HF.out]
  clear h hp
  go_enter Try.func41, Try.ntmps41
  go_wp2
  go_loopw [5, 6, 9] (fun _ _ i wr => ∃ k : Nat, i = .int .i64 (k : Int) ∧ k ≤ n ∧ Hid (k ≤ F) ∧ Hid (Below w.heap.size w wr)) (fun _ _ i _ => n - (intOf i).toNat)
  case atStart => exact ⟨0, rfl, Nat.zero_le _, Lib.hid (Nat.zero_le _), Lib.hid (Below.refl _ _)⟩
  case round =>
    obtain ⟨i, rfl, hi, HI, HB⟩ := hrel
    by_cases hlt : i < n
    · obtain ⟨g, off, rfl, hg, hc⟩ := (Hh.out.below HB.out).cells (by omega)
      obtain ⟨m, hm⟩ : ∃ m, l[i]? = some m := ⟨_, List.getElem?_eq_getElem (by rw [Hh.out.length]; exact hlt)⟩
      obtain ⟨c0, c1, c2⟩ := hc i m hm
      have Hm := Lib.hid hm
      clear hc hm
      go_wp2_with fail
      refine ((Hp.out.run _ (balloc HB.out _) m)).mono ?_
      rintro e w2 ⟨rfl, hb⟩
      have HB2 : Hid (Below w.heap.size w w2) := Lib.hid (bnext (balloc HB.out _) hb)
      clear hb
      cases hpm : p m with
      | true =>
        have HI2 : Hid (F = i) := Lib.hid (by rw [← HF.out]; exact fi_stop (by rw [HF.out]; exact HI.out) Hm.out hpm)
        clear hpm
        go_wp2
        go_ret
        exact ⟨ret_int (congrArg (fun n : Nat => (n : Int)) HI2.out.symm), HB2.out⟩
      | false =>
        have HI2 : Hid (i + 1 ≤ F) := Lib.hid (by rw [← HF.out]; exact fi_step (by rw [HF.out]; exact HI.out) Hm.out hpm)
        clear hpm
        go_wp2
        go_roundw
        case rel => exact ⟨i + 1, by go_num, by omega, HI2, HB2⟩
        case measure => simp [intOf]; omega
    · obtain rfl : i = n := by omega
      have HI2 : Hid (F = i) := Lib.hid (by rw [← HF.out]; exact fi_end Hh.out.length (by rw [HF.out]; exact HI.out))
      go_wp2
      go_ret
      exact ⟨ret_int (congrArg (fun n : Nat => (n : Int)) HI2.out.symm), HB.out⟩
theorem some_is (w : World) (A : Option Addr) (n c : Nat) (l : List Mb) (h : IsL w A n c l) (q r : Value) (p : Mb → Bool) (hp : Clos w 68 [q, r] p) :
    Calls Try.prog 47 #[.slice A n c, .func (.func 68) #[] #[q, r]] w fun e w' => e = .returned (.bool (l.any p)) ∧ Below w.heap.size w w' := by
  have hn := h.small
  obtain ⟨F, HF⟩ : ∃ F, Hid (l.findIdx p = F) := ⟨_, Lib.hid rfl⟩
  have Hd : Hid (decide (F < n) = l.any p) := Lib.hid (by rw [← HF.out, ← h.length, Bool.eq_iff_iff, decide_eq_true_eq]; exact fi_some l p)
  have Hf := Lib.hid (find_is w A n c l h q r p hp)
  clear h hp
  go_enter Try.func47, Try.ntmps47
  go_wp2_with fail
  refine Hf.out.mono ?_
  rw [HF.out]
  rintro e w2 ⟨rfl, hb⟩
  have Hb := Lib.hid hb
  clear hb
  go_wp2
  go_ret
  exact ⟨ret_bool Hd.out, Hb.out⟩
set_option maxHeartbeats 1000000 in
theorem find_mr (w : World) (A : Option Addr) (n c : Nat) (l : List Mb) (h : IsL w A n c l) (q : Value) (p : Mb → Bool) (hp : Clos w 53 [q] p) :
    Calls Try.prog 41 #[.slice A n c, .func (.func 53) #[] #[q]] w fun e w' => e = .returned (.int .i64 (l.findIdx p : Nat)) ∧ Below w.heap.size w w' := by
  have hn := h.small
  have Hh := Lib.hid h
  have Hp := Lib.hid hp
  obtain ⟨F, HF⟩ : ∃ F, Hid (l.findIdx p = F) := ⟨_, Lib.hid rfl⟩
  rw [HF.out]
  clear h hp
  go_enter Try.func41, Try.ntmps41
  go_wp2
  go_loopw [5, 6, 9] (fun _ _ i wr => ∃ k : Nat, i = .int .i64 (k : Int) ∧ k ≤ n ∧ Hid (k ≤ F) ∧ Hid (Below w.heap.size w wr)) (fun _ _ i _ => n - (intOf i).toNat)
  case atStart => exact ⟨0, rfl, Nat.zero_le _, Lib.hid (Nat.zero_le _), Lib.hid (Below.refl _ _)⟩
  case round =>
    obtain ⟨i, rfl, hi, HI, HB⟩ := hrel
    by_cases hlt : i < n
    · obtain ⟨g, off, rfl, hg, hc⟩ := (Hh.out.below HB.out).cells (by omega)
      obtain ⟨m, hm⟩ : ∃ m, l[i]? = some m := ⟨_, List.getElem?_eq_getElem (by rw [Hh.out.length]; exact hlt)⟩
      obtain ⟨c0, c1, c2⟩ := hc i m hm
      have Hm := Lib.hid hm
      clear hc hm
      go_wp2_with fail
      refine ((Hp.out.run _ (balloc HB.out _) m)).mono ?_
      rintro e w2 ⟨rfl, hb⟩
      have HB2 : Hid (Below w.heap.size w w2) := Lib.hid (bnext (balloc HB.out _) hb)
      clear hb
      cases hpm : p m with
      | true =>
        have HI2 : Hid (F = i) := Lib.hid (by rw [← HF.out]; exact fi_stop (by rw [HF.out]; exact HI.out) Hm.out hpm)
        clear hpm
        go_wp2
        go_ret
        exact ⟨ret_int (congrArg (fun n : Nat => (n : Int)) HI2.out.symm), HB2.out⟩
      | false =>
        have HI2 : Hid (i + 1 ≤ F) := Lib.hid (by rw [← HF.out]; exact fi_step (by rw [HF.out]; exact HI.out) Hm.out hpm)
        clear hpm
        go_wp2
        go_roundw
        case rel => exact ⟨i + 1, by go_num, by omega, HI2, HB2⟩
        case measure => simp [intOf]; omega
    · obtain rfl : i = n := by omega
      have HI2 : Hid (F = i) := Lib.hid (by rw [← HF.out]; exact fi_end Hh.out.length (by rw [HF.out]; exact HI.out))
      go_wp2
      go_ret
      exact ⟨ret_int (congrArg (fun n : Nat => (n : Int)) HI2.out.symm), HB.out⟩
theorem some_mr (w : World) (A : Option Addr) (n c : Nat) (l : List Mb) (h : IsL w A n c l) (q : Value) (p : Mb → Bool) (hp : Clos w 53 [q] p) :
    Calls Try.prog 47 #[.slice A n c, .func (.func 53) #[] #[q]] w fun e w' => e = .returned (.bool (l.any p)) ∧ Below w.heap.size w w' := by
  have hn := h.small
  obtain ⟨F, HF⟩ : ∃ F, Hid (l.findIdx p = F) := ⟨_, Lib.hid rfl⟩
  have Hd : Hid (decide (F < n) = l.any p) := Lib.hid (by rw [← HF.out, ← h.length, Bool.eq_iff_iff, decide_eq_true_eq]; exact fi_some l p)
  have Hf := Lib.hid (find_mr w A n c l h q p hp)
  clear h hp
  go_enter Try.func47, Try.ntmps47
  go_wp2_with fail
  refine Hf.out.mono ?_
  rw [HF.out]
  rintro e w2 ⟨rfl, hb⟩
  have Hb := Lib.hid hb
  clear hb
  go_wp2
  go_ret
  exact ⟨ret_bool Hd.out, Hb.out⟩
set_option maxHeartbeats 1000000 in
theorem find_dr (w : World) (A : Option Addr) (n c : Nat) (l : List Mb) (h : IsL w A n c l) (q : Value) (p : Mb → Bool) (hp : Clos w 54 [q] p) :
    Calls Try.prog 41 #[.slice A n c, .func (.func 54) #[] #[q]] w fun e w' => e = .returned (.int .i64 (l.findIdx p : Nat)) ∧ Below w.heap.size w w' := by
  have hn := h.small
  have Hh := Lib.hid h
  have Hp := Lib.hid hp
  obtain ⟨F, HF⟩ : ∃ F, Hid (l.findIdx p = F) := ⟨_, Lib.hid rfl⟩
  rw [HF.out]
  clear h hp
  go_enter Try.func41, Try.ntmps41
  go_wp2
  go_loopw [5, 6, 9] (fun _ _ i wr => ∃ k : Nat, i = .int .i64 (k : Int) ∧ k ≤ n ∧ Hid (k ≤ F) ∧ Hid (Below w.heap.size w wr)) (fun _ _ i _ => n - (intOf i).toNat)
  case atStart => exact ⟨0, rfl, Nat.zero_le _, Lib.hid (Nat.zero_le _), Lib.hid (Below.refl _ _)⟩
  case round =>
    obtain ⟨i, rfl, hi, HI, HB⟩ := hrel
    by_cases hlt : i < n
    · obtain ⟨g, off, rfl, hg, hc⟩ := (Hh.out.below HB.out).cells (by omega)
      obtain ⟨m, hm⟩ : ∃ m, l[i]? = some m := ⟨_, List.getElem?_eq_getElem (by rw [Hh.out.length]; exact hlt)⟩
      obtain ⟨c0, c1, c2⟩ := hc i m hm
      have Hm := Lib.hid hm
      clear hc hm
      go_wp2_with fail
      refine ((Hp.out.run _ (balloc HB.out _) m)).mono ?_
      rintro e w2 ⟨rfl, hb⟩
      have HB2 : Hid (Below w.heap.size w w2) := Lib.hid (bnext (balloc HB.out _) hb)
      clear hb
      cases hpm : p m with
      | true =>
        have HI2 : Hid (F = i) := Lib.hid (by rw [← HF.out]; exact fi_stop (by rw [HF.out]; exact HI.out) Hm.out hpm)
        clear hpm
        go_wp2
        go_ret
        exact ⟨ret_int (congrArg (fun n : Nat => (n : Int)) HI2.out.symm), HB2.out⟩
      | false =>
        have HI2 : Hid (i + 1 ≤ F) := Lib.hid (by rw [← HF.out]; exact fi_step (by rw [HF.out]; exact HI.out) Hm.out hpm)
        clear hpm
        go_wp2
        go_roundw
        case rel => exact ⟨i + 1, by go_num, by omega, HI2, HB2⟩
        case measure => simp [intOf]; omega
    · obtain rfl : i = n := by omega
      have HI2 : Hid (F = i) := Lib.hid (by rw [← HF.out]; exact fi_end Hh.out.length (by rw [HF.out]; exact HI.out))
      go_wp2
      go_ret
      exact ⟨ret_int (congrArg (fun n : Nat => (n : Int)) HI2.out.symm), HB.out⟩
theorem some_dr (w : World) (A : Option Addr) (n c : Nat) (l : List Mb) (h : IsL w A n c l) (q : Value) (p : Mb → Bool) (hp : Clos w 54 [q] p) :
    Calls Try.prog 47 #[.slice A n c, .func (.func 54) #[] #[q]] w fun e w' => e = .returned (.bool (l.any p)) ∧ Below w.heap.size w w' := by
  have hn := h.small
  obtain ⟨F, HF⟩ : ∃ F, Hid (l.findIdx p = F) := ⟨_, Lib.hid rfl⟩
  have Hd : Hid (decide (F < n) = l.any p) := Lib.hid (by rw [← HF.out, ← h.length, Bool.eq_iff_iff, decide_eq_true_eq]; exact fi_some l p)
  have Hf := Lib.hid (find_dr w A n c l h q p hp)
  clear h hp
  go_enter Try.func47, Try.ntmps47
  go_wp2_with fail
  refine Hf.out.mono ?_
  rw [HF.out]
  rintro e w2 ⟨rfl, hb⟩
  have Hb := Lib.hid hb
  clear hb
  go_wp2
  go_ret
  exact ⟨ret_bool Hd.out, Hb.out⟩
end Go.Proofs.Ytnbhjehaecifcaa
