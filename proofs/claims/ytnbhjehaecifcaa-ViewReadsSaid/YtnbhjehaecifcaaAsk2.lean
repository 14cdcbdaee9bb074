
/- What is asked of a view: turns, Enough, Open, Chief; a new view. -/
import Derived.Test.YtnbhjehaecifcaaDie
namespace Go.Proofs.Ytnbhjehaecifcaa
open Go.RowKit

def turnsB (V : Vw) : Bool := chkB V && (decide (V.epoch < 1099511627776) && decide (V.dead.length < 20))
theorem turns_any (w : World) (x : Vx) (V : Vw) (h : IsV w x V) :
    Calls Try.prog 39 #[vV x] w fun e w' => e = .returned (.bool (turnsB V)) ∧ Below w.heap.size w w' := by
  have Hh := Lib.hid h
  have hn := h.dead.small
  have Hr0 : Hid (turnsB V = (chkB V && (decide (x.epoch < 1099511627776) && decide (x.dn < 20)))) := Lib.hid (by rw [h.epoch, ← h.dead.length]; rfl)
  clear h
  go_enter Try.func39, Try.ntmps39
  go_wp2_with fail
  have Hb1 : Hid (Below w.heap.size w (w.alloc (.cells (vC x) 25))) := Lib.hid ((Below.refl _ _).alloc (Nat.le_refl _) _)
  have HB := Lib.hid (BoxV.new w x)
  refine (Check_any _ x V (Hh.out.below Hb1.out)).mono ?_
  rintro e w2 ⟨rfl, hb2⟩
  have Hb2 : Hid (Below w.heap.size w w2) := Lib.hid (bnext Hb1.out hb2)
  have HB2 := Lib.hid (HB.out.below hb2)
  obtain ⟨v0, v1, v2, v3, v4⟩ := HB2.out.cells
  clear hb2
  cases hc : chkB V with
  | false =>
    have Hr : Hid (turnsB V = false) := Lib.hid (by rw [Hr0.out, hc]; rfl)
    have he : chkE V = 1 := by simp [chkE, hc]
    go_wp2
    go_ret
    exact ⟨ret_bool Hr.out.symm, Hb2.out⟩
  | true =>
    have he : chkE V = 0 := by simp [chkE, hc]
    have Hr1 : Hid (turnsB V = (decide (x.epoch < 1099511627776) && decide (x.dn < 20))) := Lib.hid (by rw [Hr0.out, hc]; rfl)
    clear hc
    by_cases h1 : x.epoch < 1099511627776
    · have Hr : Hid (turnsB V = decide (x.dn < 20)) := Lib.hid (by rw [Hr1.out]; simp [h1])
      go_wp2
      go_ret
      refine ⟨ret_bool ?_, Hb2.out⟩
      rw [Hr.out]
      simp
      omega
    · have h1' : decide (x.epoch < 1099511627776) = false := by simpa using h1
      have Hr : Hid (turnsB V = false) := Lib.hid (by rw [Hr1.out, h1']; rfl)
      go_wp2
      go_ret
      exact ⟨ret_bool Hr.out.symm, Hb2.out⟩
def enoughB (V : Vw) : Bool := decide (V.nodes < 2 * (V.mem.length : Int))
def pUn (m : Mb) : Bool := !m.2.2
def openB (V : Vw) : Bool := enoughB V && (decide (V.dead.length = 0) && !V.mem.any pUn)
def chiefI (V : Vw) : Int := if V.mem = [] then -1 else (minM V.mem).1
theorem field0 (m : Mb) (w : World) : (Instr.field 43 (.agg #[.int .i64 m.1, .int .i64 m.2.1, .bool m.2.2]) 0).run Try.prog w = .ok (.int .i64 m.1) w := by kernel_rfl
def clampN (n : Int) : Nat := (min (max n 1) 8).toNat
def newV (n : Int) : Vw := ⟨clampN n, 0, [], [], List.replicate (clampN n) 0⟩
theorem clamp_pos (n : Int) : 1 ≤ clampN n ∧ clampN n ≤ 8 := by unfold clampN; omega
theorem mkI (w : World) (k : Nat) (hk : k ≤ 1000) (x : Int) (hx : x = (k : Int)) : (Instr.makeSlice 23 (.int .i64 x) (.int .i64 x)).run Try.prog w = .ok (.slice (some ⟨w.heap.size, 0, none⟩) k k) (w.alloc (.cells (madeCells #[.int .i64 0] k) 3)) := by
  obtain ⟨i0, hi, hz0, hz1, hz2⟩ := info_parts infoI
  subst hx
  have h := run_make (P := Try.prog) w 23 3 i0 (.int .i64 0) Try.underlying23 hi hz0 .i64 .i64 k k (by omega) (Int.le_refl _) (by rw [hz2]; omega) (by omega)
  simp only [Int.toNat_natCast, hz1, Nat.mul_one] at h
  exact h
theorem row_made (w : World) (k : Nat) (hk : k ≤ 1000) : RowI ((w.alloc (.cells (madeCells #[.int .i64 0] k) 3))) (some ⟨w.heap.size, 0, none⟩) k k (List.replicate k 0) := by
  have hl := toList_madeCells_one (.int .i64 0) k
  refine ⟨by simp [ics], .inr ⟨w.heap.size, 0, k, rfl, by simp, Nat.le_refl _, by unfold maxLen; omega, fun j u hu => ?_, fun j hj => by simp at hj, fun j hj => by rw [World.frozen?_alloc_mark]; simp⟩⟩
  rw [Nat.zero_add, World.cell?_alloc_mark, ← Array.getElem?_toList, hl, ← hu]
  simp [ics]
theorem newTold (w : World) (n : Int) (k : Nat) (hk : clampN n = k) (o : Obj) : Told ((w.alloc o).alloc (.cells (madeCells #[.int .i64 0] k) 3)) w.heap.size ⟨k, 0, none, 0, 0, none, 0, 0, some ⟨w.heap.size + 1, 0, none⟩, k, k⟩ (newV n) := by
  have h8 := clamp_pos n
  have hr := row_made (w.alloc o) k (by omega)
  have e : (w.alloc o).heap.size = w.heap.size + 1 := by simp
  rw [e] at hr
  subst hk
  exact ⟨rfl, rfl, row_nil _ _, row_nil _ _, hr, fun g hg => (by cases hg), fun g hg => (by cases hg), fun g' hg' => (by simp [blk] at hg'; omega), fun g hg => (by cases hg), fun g hg => (by cases hg), fun g hg => (by cases hg)⟩
set_option maxRecDepth 100000 in
theorem New_any (n : Int) (w : World) :
    Calls Try.prog 10 #[.int .i64 n] w fun e w' => ∃ x', e = .returned (vV x') ∧ Told w' w.heap.size x' (newV n) ∧ Below w.heap.size w w' := by
  obtain ⟨k, Hk⟩ : ∃ k, Hid (clampN n = k) := ⟨_, Lib.hid rfl⟩
  have Hfin := fun o => Lib.hid (newTold w n k Hk.out o)
  have HB : ∀ o p, Hid (Below w.heap.size w ((w.alloc o).alloc p)) := fun o p => Lib.hid (balloc ((Below.refl _ _).alloc (Nat.le_refl _) _) _)
  rcases (by omega : n < 1 ∨ (1 ≤ n ∧ n ≤ 8) ∨ 8 < n) with h1 | ⟨h1, h2⟩ | h1
  · obtain rfl : k = 1 := by rw [← Hk.out]; unfold clampN; omega
    have hmk := fun W => mkI W 1 (by omega) 1 rfl
    go_enter Try.func10, Try.ntmps10
    go_wp2
    exact bodyPost_ret (v := vV ⟨1, 0, none, 0, 0, none, 0, 0, some ⟨w.heap.size + 1, 0, none⟩, 1, 1⟩) (by simp [results, Try.results10, go_sem]) rfl ⟨_, rfl, (Hfin _).out, (HB _ _).out⟩
  · obtain ⟨m, rfl⟩ := Int.eq_ofNat_of_zero_le (show 0 ≤ n by omega)
    obtain rfl : k = m := by rw [← Hk.out]; unfold clampN; omega
    have hmk := fun W => mkI W k (by omega) (k : Int) rfl
    have e1 : ¬ (k : Int) < 1 := by omega
    have e2 : ¬ (8 : Int) < (k : Int) := by omega
    go_enter Try.func10, Try.ntmps10
    go_wp2
    exact bodyPost_ret (v := vV ⟨k, 0, none, 0, 0, none, 0, 0, some ⟨w.heap.size + 1, 0, none⟩, k, k⟩) (by simp [results, Try.results10, go_sem]) rfl ⟨_, rfl, (Hfin _).out, (HB _ _).out⟩
  · obtain rfl : k = 8 := by rw [← Hk.out]; unfold clampN; omega
    have hmk := fun W => mkI W 8 (by omega) 8 rfl
    have e1 : ¬ n < 1 := by omega
    have e2 : ¬ n ≤ 8 := by omega
    go_enter Try.func10, Try.ntmps10
    go_wp2
    exact bodyPost_ret (v := vV ⟨8, 0, none, 0, 0, none, 0, 0, some ⟨w.heap.size + 1, 0, none⟩, 8, 8⟩) (by simp [results, Try.results10, go_sem]) rfl ⟨_, rfl, (Hfin _).out, (HB _ _).out⟩
end Go.Proofs.Ytnbhjehaecifcaa
