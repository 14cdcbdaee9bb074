/- Notes between nodes: which may be, which are meant; what is asked of them. -/
import Derived.Test.YthpmodohfjjjcaaMode
import Derived.BigQuiet
namespace Go.Proofs.Ythpmodohfjjjcaa
open Go.RowKit

/-- A note. -/
structure Nt where
  kind : Int
  epoch : Int
  res : Int
  mode : Int
  seq : Int
def ntV (n : Nt) : Value := .agg #[.int .i64 n.kind, .int .i64 n.epoch, .int .i64 n.res, .int .i64 n.mode, .int .i64 n.seq]
@[go_sem] theorem ntV_def (n : Nt) : ntV n = .agg #[.int .i64 n.kind, .int .i64 n.epoch, .int .i64 n.res, .int .i64 n.mode, .int .i64 n.seq] := rfl
def nt0 : Nt := ⟨0, 0, 0, 0, 0⟩
def cntB (z : Int) : Bool := decide (0 ≤ z) && decide (z ≤ 1099511627776)
def amgB (i m : Int) : Bool := decide (0 ≤ i) && decide (i < m)
def knB (z : Int) : Bool := decide (1 ≤ z) && decide (z ≤ 5)
def mayB (n : Nt) : Bool := knB n.kind && cntB n.epoch && amgB n.res 16 && modeB n.mode && cntB n.seq
def meantB (n : Nt) (ep rs : Int) : Bool := mayB n && n.epoch == ep && amgB n.res rs
def stB (a b : Int) : Bool := a != b && covB a b
def keptM (z : Int) : Int := min (max z 1) 16
theorem counts_any (w : World) (z : Int) : Calls Try.prog 61 #[.int .i64 z] w fun e w' => e = .returned (.bool (cntB z)) ∧ w = w' := by
  go_enter Try.func61, Try.ntmps61
  go_wp2
  all_goals
    go_ret
    exact ⟨ret_bool (by simp [cntB]; try omega), rfl⟩
theorem among_any (w : World) (i m : Int) : Calls Try.prog 49 #[.int .i64 i, .int .i64 m] w fun e w' => e = .returned (.bool (amgB i m)) ∧ w = w' := by
  go_enter Try.func49, Try.ntmps49
  go_wp2
  all_goals
    go_ret
    exact ⟨ret_bool (by simp [amgB]; try omega), rfl⟩
theorem kept_any (w : World) (z : Int) : Calls Try.prog 40 #[.int .i64 z] w fun e w' => e = .returned (.int .i64 (keptM z)) ∧ w = w' := by
  go_enter Try.func40, Try.ntmps40
  go_wp2
  all_goals
    go_ret
    exact ⟨ret_int (by unfold keptM; omega), rfl⟩
theorem bne_no' {a b : Int} (h : a = b) : (a != b) = false := by simp [h]
theorem bne_yes' {a b : Int} (h : a ≠ b) : (a != b) = true := by simp [h]
theorem stronger_any (w : World) (a b : Int) : Calls Try.prog 42 #[.int .i64 a, .int .i64 b] w fun e w' => e = .returned (.bool (stB a b)) ∧ Below w.heap.size w w' := by
  by_cases h : a = b
  · have hb := bne_no' h
    have Hr : Hid (stB a b = false) := Lib.hid (by simp [stB, hb])
    rw [Hr.out]
    clear h
    go_enter Try.func42, Try.ntmps42
    go_wp2
    go_ret
    exact ⟨rfl, Below.refl _ _⟩
  · have hb := bne_yes' h
    obtain ⟨x, Hx⟩ : ∃ x, Hid (covB a b = x) := ⟨_, Lib.hid rfl⟩
    have Hr : Hid (stB a b = x) := Lib.hid (by simp [stB, hb, Hx.out])
    rw [Hr.out]
    clear h
    go_enter Try.func42, Try.ntmps42
    go_wp2_with fail
    refine (Covers_any _ a b).mono ?_
    rw [Hx.out]
    rintro e w1 ⟨rfl, hbl⟩
    have Hb := Lib.hid hbl
    clear hbl
    go_wp2
    go_ret
    exact ⟨rfl, Hb.out⟩
/-- A note in a box. -/
structure NtAt (w : World) (p : Nat) (n : Nt) : Prop where
  c0 : w.cell? ⟨p, 0, none⟩ = some (.int .i64 n.kind)
  c1 : w.cell? ⟨p, 1, none⟩ = some (.int .i64 n.epoch)
  c2 : w.cell? ⟨p, 2, none⟩ = some (.int .i64 n.res)
  c3 : w.cell? ⟨p, 3, none⟩ = some (.int .i64 n.mode)
  c4 : w.cell? ⟨p, 4, none⟩ = some (.int .i64 n.seq)
theorem NtAt.new (w : World) (n : Nt) (t : TypeId) : NtAt (w.alloc (.cells #[.int .i64 n.kind, .int .i64 n.epoch, .int .i64 n.res, .int .i64 n.mode, .int .i64 n.seq] t)) w.heap.size n := by
  refine ⟨?_, ?_, ?_, ?_, ?_⟩ <;> simp [go_sem]
theorem NtAt.lt {w : World} {p : Nat} {n : Nt} (h : NtAt w p n) : p < w.heap.size := lt_of_cell h.c0
theorem NtAt.later {S : Nat → Prop} {w w' : World} {p : Nat} {n : Nt} (h : NtAt w p n) (m : Mod S w w') (hs : ¬ S p) : NtAt w' p n :=
  ⟨(m.cell (p := ⟨p, 0, none⟩) h.lt hs).trans h.c0, (m.cell (p := ⟨p, 1, none⟩) h.lt hs).trans h.c1, (m.cell (p := ⟨p, 2, none⟩) h.lt hs).trans h.c2, (m.cell (p := ⟨p, 3, none⟩) h.lt hs).trans h.c3, (m.cell (p := ⟨p, 4, none⟩) h.lt hs).trans h.c4⟩
theorem NtAt.below {w w' : World} {p : Nat} {n : Nt} (h : NtAt w p n) (m : Below w.heap.size w w') : NtAt w' p n := h.later (Mod.of_below (S := fun _ => False) m) id
set_option maxHeartbeats 1000000 in
theorem may_any (w : World) (n : Nt) : Calls Try.prog 28 #[ntV n] w fun e w' => e = .returned (.bool (mayB n)) ∧ Below w.heap.size w w' := by
  obtain ⟨x2, H2⟩ : ∃ x, Hid (cntB n.epoch = x) := ⟨_, Lib.hid rfl⟩
  obtain ⟨x3, H3⟩ : ∃ x, Hid (amgB n.res 16 = x) := ⟨_, Lib.hid rfl⟩
  obtain ⟨x4, H4⟩ : ∃ x, Hid (modeB n.mode = x) := ⟨_, Lib.hid rfl⟩
  obtain ⟨x5, H5⟩ : ∃ x, Hid (cntB n.seq = x) := ⟨_, Lib.hid rfl⟩
  obtain ⟨R, HR⟩ : ∃ x, Hid (mayB n = x) := ⟨_, Lib.hid rfl⟩
  have HR2 : Hid (R = (knB n.kind && x2 && x3 && x4 && x5)) := Lib.hid (by rw [← HR.out, ← H2.out, ← H3.out, ← H4.out, ← H5.out]; rfl)
  rw [HR.out]
  have HB : Hid (Below w.heap.size w (w.alloc (.cells #[.int .i64 n.kind, .int .i64 n.epoch, .int .i64 n.res, .int .i64 n.mode, .int .i64 n.seq] 23))) := Lib.hid (balloc (Below.refl _ _) _)
  by_cases k1 : 1 ≤ n.kind
  · by_cases k2 : n.kind ≤ 5
    · have HK : Hid (knB n.kind = true) := Lib.hid (by simp [knB, k1, k2])
      rw [HK.out, Bool.true_and] at HR2
      go_enter Try.func28, Try.ntmps28
      go_wp2_with fail
      refine (counts_any _ _).mono ?_
      rw [H2.out]
      rintro e w1 ⟨rfl, rfl⟩
      cases x2
      · go_wp2
        go_ret
        exact ⟨ret_bool HR2.out.symm, HB.out⟩
      · go_wp2_with fail
        refine (among_any _ _ _).mono ?_
        rw [H3.out]
        rintro e w1 ⟨rfl, rfl⟩
        cases x3
        · go_wp2
          go_ret
          exact ⟨ret_bool HR2.out.symm, HB.out⟩
        · have c4 := (NtAt.new w n 23).c4
          have hlt : w.heap.size < (w.alloc (.cells #[.int .i64 n.kind, .int .i64 n.epoch, .int .i64 n.res, .int .i64 n.mode, .int .i64 n.seq] 23)).heap.size := by simp
          obtain ⟨W, HW⟩ : ∃ x, Hid (w.alloc (.cells #[.int .i64 n.kind, .int .i64 n.epoch, .int .i64 n.res, .int .i64 n.mode, .int .i64 n.seq] 23) = x) := ⟨_, Lib.hid rfl⟩
          rw [HW.out] at c4 hlt HB
          have C4 := Lib.hid c4
          have Hlt := Lib.hid hlt
          clear c4 hlt
          go_wp2_with fail
          rw [HW.out]
          refine (Is_any _ _).mono ?_
          rw [H4.out]
          rintro e w1 ⟨rfl, hb⟩
          have c4 := (hb.cell (p := ⟨w.heap.size, 4, none⟩) Hlt.out).trans C4.out
          have Hb := Lib.hid (bnext HB.out hb)
          clear hb
          cases x4
          · go_wp2
            go_ret
            exact ⟨ret_bool HR2.out.symm, Hb.out⟩
          · go_wp2_with fail
            refine (counts_any _ _).mono ?_
            rw [H5.out]
            rintro e w1 ⟨rfl, rfl⟩
            go_wp2
            go_ret
            exact ⟨ret_bool (by rw [HR2.out]; simp), Hb.out⟩
    · have HK : Hid (knB n.kind = false) := Lib.hid (by simp [knB, k2])
      rw [HK.out, Bool.false_and] at HR2
      go_enter Try.func28, Try.ntmps28
      go_wp2
      go_ret
      exact ⟨ret_bool (by rw [HR2.out]; simp), HB.out⟩
  · have HK : Hid (knB n.kind = false) := Lib.hid (by simp [knB, k1])
    rw [HK.out, Bool.false_and] at HR2
    go_enter Try.func28, Try.ntmps28
    go_wp2
    go_ret
    exact ⟨ret_bool (by rw [HR2.out]; simp), HB.out⟩
set_option maxHeartbeats 1000000 in
theorem meant_any (w : World) (n : Nt) (ep rs : Int) : Calls Try.prog 50 #[ntV n, .int .i64 ep, .int .i64 rs] w fun e w' => e = .returned (.bool (meantB n ep rs)) ∧ Below w.heap.size w w' := by
  obtain ⟨x1, H1⟩ : ∃ x, Hid (mayB n = x) := ⟨_, Lib.hid rfl⟩
  obtain ⟨x3, H3⟩ : ∃ x, Hid (amgB n.res rs = x) := ⟨_, Lib.hid rfl⟩
  obtain ⟨R, HR⟩ : ∃ x, Hid (meantB n ep rs = x) := ⟨_, Lib.hid rfl⟩
  have HR2 : Hid (R = (x1 && n.epoch == ep && x3)) := Lib.hid (by rw [← HR.out, ← H1.out, ← H3.out]; rfl)
  rw [HR.out]
  obtain ⟨W, HW⟩ : ∃ x, Hid (w.alloc (.cells #[.int .i64 n.kind, .int .i64 n.epoch, .int .i64 n.res, .int .i64 n.mode, .int .i64 n.seq] 23) = x) := ⟨_, Lib.hid rfl⟩
  have HB : Hid (Below w.heap.size w W) := Lib.hid (by rw [← HW.out]; exact balloc (Below.refl _ _) _)
  have HN : Hid (NtAt W w.heap.size n) := Lib.hid (by rw [← HW.out]; exact NtAt.new w n _)
  go_enter Try.func50, Try.ntmps50
  go_wp2_with fail
  rw [HW.out]
  refine (may_any W n).mono ?_
  rw [H1.out]
  rintro e w1 ⟨rfl, hb⟩
  have HN1 := Lib.hid (HN.out.below hb)
  have Hb := Lib.hid (bnext HB.out hb)
  clear hb
  have c1 := HN1.out.c1
  have c2 := HN1.out.c2
  cases x1
  · go_wp2
    go_ret
    exact ⟨ret_bool HR2.out.symm, Hb.out⟩
  · by_cases he : n.epoch = ep
    · have he' : (n.epoch == ep) = true := beq_yes he
      have HR3 : Hid (R = x3) := Lib.hid (by rw [HR2.out, he']; simp)
      clear he
      go_wp2_with fail
      refine (among_any _ _ _).mono ?_
      rw [H3.out]
      rintro e w1 ⟨rfl, rfl⟩
      go_wp2
      go_ret
      exact ⟨ret_bool HR3.out.symm, Hb.out⟩
    · have he' : (n.epoch == ep) = false := beq_no he
      have HR3 : Hid (R = false) := Lib.hid (by rw [HR2.out, he']; simp)
      clear he
      go_wp2
      go_ret
      exact ⟨ret_bool HR3.out.symm, Hb.out⟩
end Go.Proofs.Ythpmodohfjjjcaa
