/- What is asked of claims: which mode a node has, whether there may be such a node, whether a claim fits. -/
import Derived.Test.YthpmodohfjjjcaaLn9
namespace Go.Proofs.Ythpmodohfjjjcaa
open Go.RowKit

def modeM (l : List Cl) (z : Int) : Int := ((l.find? (ofQ z)).map (·.2)).getD 0
def thereB (z : Int) : Bool := decide (0 ≤ z) && decide (z < 8)
def somB (m : Int) : Bool := covB m 1
def strB (c : Cl) : Bool := !thereB c.1 || !somB c.2
def fitsM (h : List Cl) (c : Cl) : Bool := fitB c.2 (strM h c.1)
theorem mode_none {l : List Cl} {z : Int} (h : l.any (ofQ z) = false) : modeM l z = 0 := by
  have : l.find? (ofQ z) = none := List.find?_eq_none.2 fun c hc => by simpa using (List.any_eq_false.1 h) c hc
  simp [modeM, this]
theorem mode_at {l : List Cl} {z : Int} {i : Nat} {x : Cl} (hx : l[i]? = some x) (h : (l.take i).any (ofQ z) = false) (hp : ofQ z x = true) : modeM l z = x.2 := by
  obtain ⟨hk, e⟩ := List.getElem?_eq_some_iff.1 hx
  have : l.find? (ofQ z) = some x := by
    rw [List.find?_eq_some_iff_append]
    refine ⟨hp, l.take i, l.drop (i + 1), ?_, fun c hc => by simpa using (List.any_eq_false.1 h) c hc⟩
    rw [← e, ← List.drop_eq_getElem_cons hk, List.take_append_drop]
  simp [modeM, this]
set_option maxRecDepth 100000 in
theorem there_any (w : World) (z : Int) : Calls Try.prog 83 #[.int .i64 z] w fun e w' => e = .returned (.bool (thereB z)) ∧ w = w' := by
  by_cases h0 : 0 ≤ z
  · have Hr : Hid (thereB z = decide (z < 8)) := Lib.hid (by simp [thereB, h0])
    rw [Hr.out]
    go_enter Try.func83, Try.ntmps83
    go_wp2
    go_ret
    exact ⟨rfl, rfl⟩
  · have Hr : Hid (thereB z = false) := Lib.hid (by simp [thereB, h0])
    rw [Hr.out]
    go_enter Try.func83, Try.ntmps83
    go_wp2
    go_ret
    exact ⟨rfl, rfl⟩
set_option maxRecDepth 100000 in
theorem some_any (w : World) (m : Int) : Calls Try.prog 88 #[.int .i64 m] w fun e w' => e = .returned (.bool (somB m)) ∧ Below w.heap.size w w' := by
  obtain ⟨x, Hx⟩ : ∃ x, Hid (covB m 1 = x) := ⟨_, Lib.hid rfl⟩
  rw [somB, Hx.out]
  go_enter Try.func88, Try.ntmps88
  go_wp2_with fail
  refine (Covers_any _ m 1).mono ?_
  rw [Hx.out]
  rintro e w1 ⟨rfl, hb⟩
  have Hb := Lib.hid hb
  clear hb
  go_wp2
  go_ret
  exact ⟨rfl, Hb.out⟩
set_option maxRecDepth 100000 in
theorem strange_any (w : World) (c : Cl) : Calls Try.prog 91 #[clV c] w fun e w' => e = .returned (.bool (strB c)) ∧ Below w.heap.size w w' := by
  obtain ⟨x, Hx⟩ : ∃ x, Hid (thereB c.1 = x) := ⟨_, Lib.hid rfl⟩
  obtain ⟨y, Hy⟩ : ∃ x, Hid (somB c.2 = x) := ⟨_, Lib.hid rfl⟩
  rw [strB, Hx.out, Hy.out]
  go_enter Try.func91, Try.ntmps91
  cases x
  · go_wp2_with fail
    refine (there_any _ c.1).mono ?_
    rw [Hx.out]
    rintro e w1 ⟨rfl, rfl⟩
    go_wp2
    go_ret
    exact ⟨rfl, balloc (Below.refl _ _) _⟩
  · go_wp2_with fail
    refine (there_any _ c.1).mono ?_
    rw [Hx.out]
    rintro e w1 ⟨rfl, rfl⟩
    go_wp2_with fail
    refine (some_any _ c.2).mono ?_
    rw [Hy.out]
    rintro e w1 ⟨rfl, hb⟩
    have Hb := Lib.hid (bnext (balloc (Below.refl _ _) _) hb)
    clear hb
    go_wp2
    go_ret
    exact ⟨rfl, Hb.out⟩
set_option maxRecDepth 100000 in
theorem of_index (w : World) (A : Option Addr) (n c : Nat) (l : List Cl) (hl : IsC w A n l) (b : Nat) (z : Int) (hz : w.cell? ⟨b, 0, none⟩ = some (.int .i64 z)) :
    Calls Try.prog 86 #[.slice A n c, .func (.func 99) #[] #[.pointer (some ⟨b, 0, none⟩)]] w fun e w' => e = .returned (.int .i64 (idxM (ofQ z) l)) ∧ Below w.heap.size w w' :=
  Index1 99 (ofQ z) b (.int .i64 z) (fun _ _ => rfl) (fun u c hu => of_run b z u c hu) w hz A n c l hl
set_option maxRecDepth 100000 in
set_option maxHeartbeats 1000000 in
theorem modeIn_any (w : World) (A : Option Addr) (n c : Nat) (l : List Cl) (hl : IsC w A n l) (z : Int) :
    Calls Try.prog 80 #[.slice A n c, .int .i64 z] w fun e w' => e = .returned (.int .i64 (modeM l z)) ∧ Below w.heap.size w w' := by
  have Hl := Lib.hid hl
  have hn := hl.small
  have HB1 : Hid (Below w.heap.size w (w.alloc (.cells #[.int .i64 z] 3))) := Lib.hid (balloc (Below.refl _ _) _)
  have Hi := Lib.hid (of_index _ A n c l (hl.below HB1.out) w.heap.size z (by simp [go_sem]))
  obtain ⟨M, HM⟩ : ∃ x, Hid (modeM l z = x) := ⟨_, Lib.hid rfl⟩
  rw [HM.out]
  cases ha : l.any (ofQ z) with
  | false =>
    have HM0 : Hid (M = 0) := Lib.hid (by rw [← HM.out]; exact mode_none ha)
    rw [idx_none ha] at Hi
    clear hl ha
    go_enter Try.func80, Try.ntmps80
    go_wp2_with fail
    refine (of_any _ z).mono ?_
    rintro e w1 ⟨rfl, rfl⟩
    go_wp2_with fail
    refine Hi.out.mono ?_
    rintro e w2 ⟨rfl, hb⟩
    have Hb := Lib.hid (bnext HB1.out hb)
    clear hb
    go_wp2
    go_ret
    exact ⟨ret_int HM0.out.symm, Hb.out⟩
  | true =>
    obtain ⟨i, x, hi, hx, hnone, hp⟩ := idx_some ha
    have HM0 : Hid (M = x.2) := Lib.hid (by rw [← HM.out]; exact mode_at hx hnone hp)
    rw [hi] at Hi
    have hin : i < n := by rw [← hl.length]; exact (List.getElem?_eq_some_iff.1 hx).1
    obtain ⟨g, off, rfl, hg, hc⟩ := hl.cells (by omega)
    have C := Lib.hid (hc i x hx)
    have hi0 : ¬ ((i : Int) < 0) := by omega
    have hin' : (i : Int) < (n : Int) := by omega
    clear hl ha hi hx hnone hp hc
    go_enter Try.func80, Try.ntmps80
    go_wp2_with fail
    refine (of_any _ z).mono ?_
    rintro e w1 ⟨rfl, rfl⟩
    go_wp2_with fail
    refine Hi.out.mono ?_
    rintro e w2 ⟨rfl, hb⟩
    have Hb := Lib.hid (bnext HB1.out hb)
    have c1 := (Hb.out.cell (p := ⟨g, off + i * 2 + 1, none⟩) hg).trans C.out.2
    clear hb
    go_wp2
    go_ret
    exact ⟨ret_int HM0.out.symm, Hb.out⟩
set_option maxRecDepth 100000 in
set_option maxHeartbeats 1000000 in
theorem fits_any (w : World) (A : Option Addr) (n cp : Nat) (l : List Cl) (hl : IsC w A n l) (c : Cl) :
    Calls Try.prog 95 #[.slice A n cp, clV c] w fun e w' => e = .returned (.bool (fitsM l c)) ∧ Below w.heap.size w w' := by
  have Hl := Lib.hid hl
  obtain ⟨S, HS⟩ : ∃ x, Hid (strM l c.1 = x) := ⟨_, Lib.hid rfl⟩
  obtain ⟨F, HF⟩ : ∃ x, Hid (fitB c.2 S = x) := ⟨_, Lib.hid rfl⟩
  rw [fitsM, HS.out, HF.out]
  obtain ⟨W, HW⟩ : ∃ W, Hid (w.alloc (.cells #[.int .i64 c.1, .int .i64 c.2] 61) = W) := ⟨_, Lib.hid rfl⟩
  obtain ⟨p, Hp⟩ : ∃ p, Hid (w.heap.size = p) := ⟨_, Lib.hid rfl⟩
  have HB : Hid (Below w.heap.size w W) := Lib.hid (by rw [← HW.out]; exact balloc (Below.refl _ _) _)
  have z0 : W.cell? ⟨p, 0, none⟩ = some (.int .i64 c.1) := by rw [← HW.out, ← Hp.out]; simp [go_sem]
  have z1 : W.cell? ⟨p, 1, none⟩ = some (.int .i64 c.2) := by rw [← HW.out, ← Hp.out]; simp [go_sem]
  have q0 : ∀ y : In (Abv W), y.u.cell? ⟨p, 0, none⟩ = some (.int .i64 c.1) := fun y => (y.is.cell (p := ⟨p, 0, none⟩) (lt_of_cell z0)).trans z0
  have q1 : ∀ y : In (Abv W), y.u.cell? ⟨p, 1, none⟩ = some (.int .i64 c.2) := fun y => (y.is.cell (p := ⟨p, 1, none⟩) (lt_of_cell z1)).trans z1
  clear hl z0 z1
  go_enter Try.func95, Try.ntmps95
  go_wp2_with fail
  rw [HW.out, Hp.out]
  refine wp_region_mix (by kernel_rfl) (Cls (Abv W)) [(0, 0), (1, 0), (2, 0), (3, 0), (4, 0), (5, 1), (6, 1), (7, 0)] (by kernel_rfl) (cls (Below.refl _ W).drew) ?_
  repeat (refine mix0 rfl (fun K hK => ?_); go_simp; refine hK _ ?_; clear hK K)
  refine mix1 rfl (fun K hK => ?_)
  go_simp
  refine (Strongest_any W.drew A n cp l ((Hl.out.below HB.out).below (Below.refl _ _).drew) c.1).mono ?_
  rw [HS.out]
  rintro e w1 ⟨rfl, hb⟩
  have HB1 : Hid (Abv W w1) := Lib.hid (bnext (Below.refl _ W).drew hb)
  clear hb
  refine ⟨_, rfl, hK _ _ (cls HB1.out) ?_⟩
  clear hK K
  refine mix1 rfl (fun K hK => ?_)
  go_simp
  refine (Fit_any _ c.2 S).mono ?_
  rw [HF.out]
  rintro e w2 ⟨rfl, hb⟩
  have HB2 : Hid (Abv W w2) := Lib.hid (bnext HB1.out hb)
  clear hb
  refine ⟨_, rfl, hK _ _ (cls HB2.out) ?_⟩
  clear hK K
  repeat (refine mix0 rfl (fun K hK => ?_); go_simp; refine hK _ ?_; clear hK K)
  refine mixEnd ?_
  go_wp2
  go_ret
  exact ⟨rfl, bnext HB.out HB2.out⟩
end Go.Proofs.Ythpmodohfjjjcaa
