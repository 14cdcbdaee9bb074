/- The strongest mode of claims. -/
import Derived.Test.YthpmodohfjjjcaaIdx8
namespace Go.Proofs.Ythpmodohfjjjcaa
open Go.RowKit

theorem bne_no {a b : Int} (h : a = b) : (a != b) = false := by simpa using h
theorem bne_yes {a b : Int} (h : a ≠ b) : (a != b) = true := by simpa using h
def soC (but m : Int) (c : Cl) : Bool := c.1 != but && c.2 == m
def soM (l : List Cl) (but m : Int) : Bool := l.any (soC but m)
def strM (l : List Cl) (but : Int) : Int := strP (soM l but)
def soQ (l : List Cl) (but m : Int) (i : Nat) : Bool := ((l[i]?).map (soC but m)).getD false
theorem soQ_any (l : List Cl) (but m : Int) : anyQ (soQ l but m) l.length = soM l but m := by
  rw [Bool.eq_iff_iff]
  simp only [anyQ, soM, List.any_eq_true, List.mem_range]
  constructor
  · rintro ⟨i, hi, h⟩
    refine ⟨l[i], List.getElem_mem hi, ?_⟩
    simpa [soQ, List.getElem?_eq_getElem hi] using h
  · rintro ⟨c, hc, h⟩
    obtain ⟨i, hi, rfl⟩ := List.getElem_of_mem hc
    exact ⟨i, hi, by simpa [soQ, List.getElem?_eq_getElem hi] using h⟩
set_option maxRecDepth 100000 in
theorem so_run (a b : Nat) (but m : Int) (c : Cl) (w : World) (h : w.cell? ⟨a, 0, none⟩ = some (.int .i64 but)) (h2 : w.cell? ⟨b, 0, none⟩ = some (.int .i64 m)) :
    Calls Try.prog 107 #[clV c, .pointer (some ⟨a, 0, none⟩), .pointer (some ⟨b, 0, none⟩)] w fun e w' => e = .returned (.bool (soC but m c)) ∧ Below w.heap.size w w' := by
  have ha := lt_of_cell h
  have hb := lt_of_cell h2
  by_cases e1 : c.1 = but
  · have e2 := bne_no e1
    have Hp : Hid (soC but m c = false) := Lib.hid (by simp [soC, e1])
    rw [Hp.out]
    clear e1
    go_enter Try.func107, Try.ntmps107
    go_wp2
    go_ret
    exact ⟨rfl, balloc (Below.refl _ _) _⟩
  · have e2 := bne_yes e1
    have Hp : Hid (soC but m c = (c.2 == m)) := Lib.hid (by simp [soC, e1])
    rw [Hp.out]
    clear e1
    go_enter Try.func107, Try.ntmps107
    go_wp2
    go_ret
    exact ⟨rfl, balloc (Below.refl _ _) _⟩
set_option maxRecDepth 100000 in
theorem som_run (a b : Nat) (A : Option Addr) (n cp : Nat) (l : List Cl) (but m : Int) (w : World) (hl : IsC w A n l) (h : w.cell? ⟨a, 0, none⟩ = some (.slice A n cp)) (h2 : w.cell? ⟨b, 0, none⟩ = some (.int .i64 but)) :
    Calls Try.prog 106 #[.int .i64 m, .pointer (some ⟨a, 0, none⟩), .pointer (some ⟨b, 0, none⟩)] w fun e w' => e = .returned (.bool (soM l but m)) ∧ Below w.heap.size w w' := by
  have ha := lt_of_cell h
  have hb := lt_of_cell h2
  have H2 := Lib.hid h2
  have Hl := Lib.hid hl
  have HQ : Hid (anyQ (soQ l but m) n = soM l but m) := Lib.hid (by rw [← hl.length]; exact soQ_any l but m)
  obtain ⟨R, HR⟩ : ∃ R, Hid (soM l but m = R) := ⟨_, Lib.hid rfl⟩
  rw [HR.out] at HQ ⊢
  clear hl h2
  go_enter Try.func106, Try.ntmps106
  go_wp2_with fail
  obtain ⟨w1, Hw1⟩ : ∃ w1, Hid (w.alloc (.cells #[.int .i64 m] 3) = w1) := ⟨_, Lib.hid rfl⟩
  obtain ⟨p, Hp⟩ : ∃ p, Hid (w.heap.size = p) := ⟨_, Lib.hid rfl⟩
  have HB : Hid (Below w.heap.size w w1) := Lib.hid (by rw [← Hw1.out]; exact balloc (Below.refl _ _) _)
  have Hm : Hid (w1.cell? ⟨p, 0, none⟩ = some (.int .i64 m)) := Lib.hid (by rw [← Hw1.out, ← Hp.out]; simp [go_sem])
  rw [Hw1.out, Hp.out]
  refine (ContainsFunc_any w1 w1 A n cp l (Hl.out.below HB.out) 107 _ _ (fun _ u => Below w1.heap.size w1 u) (soQ l but m) ⟨fun _ _ => rfl, Below.refl _ _, fun _ _ h => h, fun i u c hu hc => ?_⟩).mono ?_
  · refine (so_run b p but m c u ((hu.cell (p := ⟨b, 0, none⟩) (Nat.lt_of_lt_of_le hb HB.out.size)).trans ((HB.out.cell (p := ⟨b, 0, none⟩) hb).trans H2.out)) ((hu.cell (p := ⟨p, 0, none⟩) (lt_of_cell Hm.out)).trans Hm.out)).mono ?_
    rintro e u' ⟨rfl, hb2⟩
    exact ⟨by simp [soQ, hc], bnext hu hb2⟩
  · rw [HQ.out]
    rintro e w2 ⟨rfl, i, hb2⟩
    have HB2 := Lib.hid (bnext HB.out hb2)
    clear hb2
    go_wp2
    go_ret
    exact ⟨rfl, HB2.out⟩
set_option maxRecDepth 100000 in
theorem Strongest_any (w : World) (A : Option Addr) (n cp : Nat) (l : List Cl) (hl : IsC w A n l) (but : Int) :
    Calls Try.prog 102 #[.slice A n cp, .int .i64 but] w fun e w' => e = .returned (.int .i64 (strM l but)) ∧ Below w.heap.size w w' := by
  have Hl := Lib.hid hl
  obtain ⟨R, HR⟩ : ∃ R, Hid (strP (soM l but) = R) := ⟨_, Lib.hid rfl⟩
  rw [strM, HR.out]
  clear hl
  go_enter Try.func102, Try.ntmps102
  go_wp2_with fail
  obtain ⟨w1, Hw1⟩ : ∃ w1, Hid ((w.alloc (.cells #[.slice A n cp] 55)).alloc (.cells #[.int .i64 but] 3) = w1) := ⟨_, Lib.hid rfl⟩
  obtain ⟨p, Hp⟩ : ∃ p, Hid (w.heap.size = p) := ⟨_, Lib.hid rfl⟩
  have HB : Hid (Below w.heap.size w w1) := Lib.hid (by rw [← Hw1.out]; exact balloc (balloc (Below.refl _ _) _) _)
  have H1 : Hid (w1.cell? ⟨p, 0, none⟩ = some (.slice A n cp)) := Lib.hid (by rw [← Hw1.out, ← Hp.out]; simp [go_sem])
  have H2 : Hid (w1.cell? ⟨p + 1, 0, none⟩ = some (.int .i64 but)) := Lib.hid (by rw [← Hw1.out, ← Hp.out]; simp [go_sem])
  rw [Hw1.out, Hp.out]
  refine (strongest_two _ 106 _ _ (soM l but) ⟨fun _ _ => rfl, fun u hu z => som_run p (p + 1) A n cp l but z u ((Hl.out.below HB.out).below hu) ?_ ?_⟩).mono ?_
  · exact (hu.cell (p := ⟨p, 0, none⟩) (lt_of_cell H1.out)).trans H1.out
  · exact (hu.cell (p := ⟨p + 1, 0, none⟩) (lt_of_cell H2.out)).trans H2.out
  rw [HR.out]
  rintro e w2 ⟨rfl, hb⟩
  have Hb := Lib.hid (bnext HB.out hb)
  clear hb
  go_wp2
  go_ret
  exact ⟨rfl, Hb.out⟩
end Go.Proofs.Ythpmodohfjjjcaa
