
/- What package layout gives, at this translation: New, may, where things lie. -/
import Derived.Test.YtoakjcmhmlngfaaLp13
import Derived.Test.YtoakjcmhmlngfaaChecked
import Derived.Laws.StructEq
import Derived.Laws.ResultCell
import Derived.Test.YtoakjcmhmlngfaaRefRd01
import Derived.Test.YtoakjcmhmlngfaaMix
namespace Go.Proofs.Ytoakjcmhmlngfaa
open Go.RowKit

@[go_sem] theorem Lay.v_def (l : Lay) : l.v = .agg #[.int .i64 l.s, .int .i64 l.n, .int .i64 l.f, .int .i64 l.z] := rfl
/-- A layout lies in block b. -/
structure LayAt (w : World) (b : Nat) (l : Lay) : Prop where
  c0 : w.cell? ⟨b, 0, none⟩ = some (.int .i64 l.s)
  c1 : w.cell? ⟨b, 1, none⟩ = some (.int .i64 l.n)
  c2 : w.cell? ⟨b, 2, none⟩ = some (.int .i64 l.f)
  c3 : w.cell? ⟨b, 3, none⟩ = some (.int .i64 l.z)
theorem LayAt.lt {w : World} {b : Nat} {l : Lay} (h : LayAt w b l) : b < w.heap.size := lt_of_cell h.c0
theorem LayAt.later {S : Nat → Prop} {w w' : World} {b : Nat} {l : Lay} (h : LayAt w b l) (m : Mod S w w') (hs : ¬ S b) : LayAt w' b l :=
  ⟨(m.cell (p := ⟨b, 0, none⟩) h.lt hs).trans h.c0, (m.cell (p := ⟨b, 1, none⟩) h.lt hs).trans h.c1, (m.cell (p := ⟨b, 2, none⟩) h.lt hs).trans h.c2, (m.cell (p := ⟨b, 3, none⟩) h.lt hs).trans h.c3⟩
theorem LayAt.below {w w' : World} {b : Nat} {l : Lay} (h : LayAt w b l) (m : Below w.heap.size w w') : LayAt w' b l := h.later (Mod.of_below (S := fun _ => False) m) id
/-- A layout is what a call told, as a pair with a number. -/
theorem eq_lay (a b : Lay) (w : World) : (binOp .eql 25 a.v b.v).run Try.prog w = .ok (.bool (decide (a = b))) w := by
  have hu : Try.prog.underlying 25 = some (.struct (Try.prog.fieldsOf 25)) := by kernel_rfl
  have hp : Try.prog.stoodInHeld 25 = false := by kernel_rfl
  obtain ⟨a0, a1, a2, a3⟩ := a
  obtain ⟨b0, b1, b2, b3⟩ := b
  rw [Lay.v, Lay.v, run_eql_struct, run_equalIn_agg _ _ _ _ _ hu hp]
  simp [Program.fieldsOf, Try.underlying25, Try.underlying3, go_sem, part]
  by_cases h0 : a0 = b0 <;> by_cases h1 : a1 = b1 <;> by_cases h2 : a2 = b2 <;> by_cases h3 : a3 = b3 <;> simp [h0, h1, h2, h3]
set_option maxRecDepth 100000 in
set_option maxHeartbeats 1000000 in
theorem LNew_any (s n : Int) (w : World) :
    Calls Try.prog 41 #[.int .i64 s, .int .i64 n] w fun e w' => e = .returned (.tuple #[(layN s n).v, .int .i64 (layE s n)]) ∧ Below w.heap.size w w' := by
  rcases layE_cases s n with ⟨h, hc⟩ | ⟨h, h1, h2, h3, h4⟩ | ⟨h, h1, h2, h3, h4⟩
  · have hl : layN s n = .zero := layN_bad (by omega)
    rw [h, hl]
    clear h hl
    by_cases q1 : n < 1
    · clear hc
      go_enter Try.func41, Try.ntmps41
      go_wp2
      refine bodyPost_ret (v := .tuple #[Lay.zero.v, .int .i64 1]) ?_ rfl ⟨rfl, balloc (Below.refl _ _) _⟩
      rw [results_cell_tmp rfl]
      go_simp
      all_goals first | exact ⟨rfl, rfl, rfl, rfl⟩ | rfl | omega | exact ⟨rfl, by omega⟩ | exact ⟨by omega, by omega⟩
    · by_cases q2 : 8 < n
      · clear hc
        go_enter Try.func41, Try.ntmps41
        go_wp2
        refine bodyPost_ret (v := .tuple #[Lay.zero.v, .int .i64 1]) ?_ rfl ⟨rfl, balloc (Below.refl _ _) _⟩
        rw [results_cell_tmp rfl]
        go_simp
        all_goals first | exact ⟨rfl, rfl, rfl, rfl⟩ | rfl | omega | exact ⟨rfl, by omega⟩ | exact ⟨by omega, by omega⟩
      · have q3 : 65536 < s := by omega
        clear hc
        go_enter Try.func41, Try.ntmps41
        go_wp2
        refine bodyPost_ret (v := .tuple #[Lay.zero.v, .int .i64 1]) ?_ rfl ⟨rfl, balloc (Below.refl _ _) _⟩
        rw [results_cell_tmp rfl]
        go_simp
        all_goals first | exact ⟨rfl, rfl, rfl, rfl⟩ | rfl | omega | exact ⟨rfl, by omega⟩ | exact ⟨by omega, by omega⟩
  · have hl : layN s n = .zero := layN_bad (by omega)
    rw [h, hl]
    clear h hl
    go_enter Try.func41, Try.ntmps41
    go_wp2
    all_goals refine bodyPost_ret (v := .tuple #[Lay.zero.v, .int .i64 11]) ?_ rfl ⟨rfl, balloc (Below.refl _ _) _⟩
    all_goals rw [results_cell_tmp rfl]
    all_goals go_simp
    all_goals first | exact ⟨rfl, rfl, rfl, rfl⟩ | rfl | omega | exact ⟨rfl, by omega⟩ | exact ⟨by omega, by omega⟩
  · have hl := layN_ok h
    rw [h, hl]
    clear h hl
    by_cases q : 4000 < (s - (2 + 40 * n)) / 4
    · rw [show min ((s - (2 + 40 * n)) / 4) 4000 = 4000 by omega]
      go_enter Try.func41, Try.ntmps41
      go_wp2
      refine bodyPost_ret (v := .tuple #[Lay.v ⟨s, n, 2 + 40 * n, 4000⟩, .int .i64 0]) ?_ rfl ⟨rfl, balloc (Below.refl _ _) _⟩
      rw [results_cell_tmp rfl]
      go_simp
      all_goals first | exact ⟨rfl, rfl, rfl, rfl⟩ | rfl | omega | exact ⟨rfl, by omega⟩ | exact ⟨by omega, by omega⟩
    · rw [show min ((s - (2 + 40 * n)) / 4) 4000 = (s - (2 + 40 * n)) / 4 by omega]
      go_enter Try.func41, Try.ntmps41
      go_wp2
      refine bodyPost_ret (v := .tuple #[Lay.v ⟨s, n, 2 + 40 * n, (s - (2 + 40 * n)) / 4⟩, .int .i64 0]) ?_ rfl ⟨rfl, balloc (Below.refl _ _) _⟩
      rw [results_cell_tmp rfl]
      go_simp
      all_goals first | exact ⟨rfl, rfl, rfl, rfl⟩ | rfl | omega | exact ⟨rfl, by omega⟩ | exact ⟨by omega, by omega⟩
set_option maxRecDepth 100000 in
set_option maxHeartbeats 1000000 in
theorem XLNew_any (s n : Int) (w : World) :
    Calls Try.prog 16 #[.int .i64 s, .int .i64 n] w fun e w' => e = .returned (.tuple #[(layN s n).v, .int .i64 (layE s n)]) ∧ Below w.heap.size w w' := by
  rcases layE_cases s n with ⟨h, hc⟩ | ⟨h, h1, h2, h3, h4⟩ | ⟨h, h1, h2, h3, h4⟩
  · have hl : layN s n = .zero := layN_bad (by omega)
    rw [h, hl]
    clear h hl
    by_cases q1 : n < 1
    · clear hc
      go_enter Try.func16, Try.ntmps16
      go_wp2
      refine bodyPost_ret (v := .tuple #[Lay.zero.v, .int .i64 1]) ?_ rfl ⟨rfl, balloc (Below.refl _ _) _⟩
      rw [results_cell_tmp rfl]
      go_simp
      all_goals first | exact ⟨rfl, rfl, rfl, rfl⟩ | rfl | omega | exact ⟨rfl, by omega⟩ | exact ⟨by omega, by omega⟩
    · by_cases q2 : 8 < n
      · clear hc
        go_enter Try.func16, Try.ntmps16
        go_wp2
        refine bodyPost_ret (v := .tuple #[Lay.zero.v, .int .i64 1]) ?_ rfl ⟨rfl, balloc (Below.refl _ _) _⟩
        rw [results_cell_tmp rfl]
        go_simp
        all_goals first | exact ⟨rfl, rfl, rfl, rfl⟩ | rfl | omega | exact ⟨rfl, by omega⟩ | exact ⟨by omega, by omega⟩
      · have q3 : 65536 < s := by omega
        clear hc
        go_enter Try.func16, Try.ntmps16
        go_wp2
        refine bodyPost_ret (v := .tuple #[Lay.zero.v, .int .i64 1]) ?_ rfl ⟨rfl, balloc (Below.refl _ _) _⟩
        rw [results_cell_tmp rfl]
        go_simp
        all_goals first | exact ⟨rfl, rfl, rfl, rfl⟩ | rfl | omega | exact ⟨rfl, by omega⟩ | exact ⟨by omega, by omega⟩
  · have hl : layN s n = .zero := layN_bad (by omega)
    rw [h, hl]
    clear h hl
    have k1 : IntKind.i64.wrap (40 * n) = 40 * n := IntWalk.i64_in _ (by omega)
    go_enter Try.func16, Try.ntmps16
    go_wp2
    refine bodyPost_ret (v := .tuple #[Lay.zero.v, .int .i64 11]) ?_ rfl ⟨rfl, balloc (Below.refl _ _) _⟩
    rw [results_cell_tmp rfl]
    go_simp
    all_goals first | exact ⟨rfl, rfl, rfl, rfl⟩ | rfl | omega | exact ⟨rfl, by omega⟩ | exact ⟨by omega, by omega⟩
  · have hl := layN_ok h
    rw [h, hl]
    clear h hl
    by_cases q : 4000 < (s - (2 + 40 * n)) / 4
    · rw [show min ((s - (2 + 40 * n)) / 4) 4000 = 4000 by omega]
      go_enter Try.func16, Try.ntmps16
      go_wp2
      refine bodyPost_ret (v := .tuple #[Lay.v ⟨s, n, 2 + 40 * n, 4000⟩, .int .i64 0]) ?_ rfl ⟨rfl, balloc (Below.refl _ _) _⟩
      rw [results_cell_tmp rfl]
      go_simp
      all_goals first | exact ⟨rfl, rfl, rfl, rfl⟩ | rfl | omega | exact ⟨rfl, by omega⟩ | exact ⟨by omega, by omega⟩
    · rw [show min ((s - (2 + 40 * n)) / 4) 4000 = (s - (2 + 40 * n)) / 4 by omega]
      go_enter Try.func16, Try.ntmps16
      go_wp2
      refine bodyPost_ret (v := .tuple #[Lay.v ⟨s, n, 2 + 40 * n, (s - (2 + 40 * n)) / 4⟩, .int .i64 0]) ?_ rfl ⟨rfl, balloc (Below.refl _ _) _⟩
      rw [results_cell_tmp rfl]
      go_simp
      all_goals first | exact ⟨rfl, rfl, rfl, rfl⟩ | rfl | omega | exact ⟨rfl, by omega⟩ | exact ⟨by omega, by omega⟩
set_option maxRecDepth 100000 in
theorem may_any (l : Lay) (w : World) :
    Calls Try.prog 31 #[l.v] w fun e w' => e = .returned (.bool (layOk l)) ∧ Below w.heap.size w w' := by
  obtain ⟨m, Hm⟩ : ∃ m, Hid (layN l.s l.n = m) := ⟨_, Lib.hid rfl⟩
  obtain ⟨x, Hx⟩ : ∃ x, Hid (layE l.s l.n = x) := ⟨_, Lib.hid rfl⟩
  have Hr : Hid (layOk l = (decide (x = 0) && decide (m = l))) := Lib.hid (by rw [layOk, Hx.out, Hm.out])
  rw [Hr.out]
  have heq := fun w => eq_lay m l w
  simp only [Lay.v] at heq
  go_enter Try.func31, Try.ntmps31
  go_wp2_with fail
  refine (LNew_any _ _ _).mono ?_
  rw [Hm.out, Hx.out]
  rintro e w1 ⟨rfl, hb⟩
  have Hb := Lib.hid hb
  clear hb
  have Hb2 : Hid (Below w.heap.size w (w1.alloc (.cells #[.int .i64 m.s, .int .i64 m.n, .int .i64 m.f, .int .i64 m.z] 25))) := Lib.hid (balloc ((balloc (Below.refl _ w) _).trans (Hb.out.mono (by simp))) _)
  have hc : LayAt w1 w.heap.size l := LayAt.below (w := w.alloc (.cells #[.int .i64 l.s, .int .i64 l.n, .int .i64 l.f, .int .i64 l.z] 25)) ⟨by go_simp, by go_simp, by go_simp, by go_simp⟩ Hb.out
  have hlt := hc.lt
  obtain ⟨c0, c1, c2, c3⟩ := hc
  by_cases hx : x = 0
  · subst hx
    go_wp2
    go_ret
    exact ⟨ret_bool (by simp), Hb2.out⟩
  · have hx2 : (x == 0) = false := by simp [hx]
    go_wp2
    go_ret
    exact ⟨ret_bool (by simp [hx]), Hb2.out⟩
set_option maxRecDepth 100000 in
theorem Is_any (l : Lay) (w : World) :
    Calls Try.prog 32 #[l.v] w fun e w' => e = .returned (.bool (layOk l)) ∧ Below w.heap.size w w' := by
  obtain ⟨m, Hm⟩ : ∃ m, Hid (layN l.s l.n = m) := ⟨_, Lib.hid rfl⟩
  obtain ⟨x, Hx⟩ : ∃ x, Hid (layE l.s l.n = x) := ⟨_, Lib.hid rfl⟩
  have Hr : Hid (layOk l = (decide (x = 0) && decide (l = m))) := Lib.hid (by rw [layOk, Hx.out, Hm.out]; rw [show decide (m = l) = decide (l = m) from decide_eq_decide.2 eq_comm])
  rw [Hr.out]
  have heq := fun w => eq_lay l m w
  simp only [Lay.v] at heq
  go_enter Try.func32, Try.ntmps32
  go_wp2_with fail
  refine (XLNew_any _ _ _).mono ?_
  rw [Hm.out, Hx.out]
  rintro e w1 ⟨rfl, hb⟩
  have Hb := Lib.hid hb
  clear hb
  have Hb2 : Hid (Below w.heap.size w (w1.alloc (.cells #[.int .i64 m.s, .int .i64 m.n, .int .i64 m.f, .int .i64 m.z] 25))) := Lib.hid (balloc ((balloc (Below.refl _ w) _).trans (Hb.out.mono (by simp))) _)
  have hc : LayAt w1 w.heap.size l := LayAt.below (w := w.alloc (.cells #[.int .i64 l.s, .int .i64 l.n, .int .i64 l.f, .int .i64 l.z] 25)) ⟨by go_simp, by go_simp, by go_simp, by go_simp⟩ Hb.out
  have hlt := hc.lt
  obtain ⟨c0, c1, c2, c3⟩ := hc
  by_cases hx : x = 0
  · subst hx
    go_wp2
    go_ret
    exact ⟨ret_bool (by simp), Hb2.out⟩
  · have hx2 : (x == 0) = false := by simp [hx]
    go_wp2
    go_ret
    exact ⟨ret_bool (by simp [hx]), Hb2.out⟩
/-! ### where things lie -/
/-- Behind a call that asks of a layout in a box. -/
theorem layBox (l : Lay) (w w1 : World) (hb : Below (w.alloc (.cells #[.int .i64 l.s, .int .i64 l.n, .int .i64 l.f, .int .i64 l.z] 25)).heap.size (w.alloc (.cells #[.int .i64 l.s, .int .i64 l.n, .int .i64 l.f, .int .i64 l.z] 25)) w1) : LayAt w1 w.heap.size l ∧ Below w.heap.size w w1 :=
  ⟨LayAt.below (w := w.alloc (.cells #[.int .i64 l.s, .int .i64 l.n, .int .i64 l.f, .int .i64 l.z] 25)) ⟨by go_simp, by go_simp, by go_simp, by go_simp⟩ hb, (balloc (Below.refl _ w) _).trans (hb.mono (by simp))⟩
set_option maxRecDepth 100000 in
set_option maxHeartbeats 1000000 in
theorem at_any (l : Lay) (z p : Int) (hp0 : 0 ≤ p) (hp1 : p ≤ 1) (w : World) :
    Calls Try.prog 29 #[l.v, .int .i64 z, .int .i64 p] w fun e w' => e = .returned (.int .i64 (layP l z p)) ∧ Below w.heap.size w w' := by
  by_cases hk : layOk l = true
  · by_cases hc : 0 ≤ z ∧ z < 4
    · have hr : layP l z p = l.f + z * l.z + p := if_pos ⟨hk, hc⟩
      obtain ⟨h0, h1⟩ := hc
      obtain ⟨z0, z1, z2⟩ := (LayOk.of hk).z3
      obtain ⟨f0, f1⟩ := (LayOk.of hk).fb
      have m0 : 0 ≤ z * l.z := Int.mul_nonneg h0 (by omega)
      have m1 : z * l.z ≤ 4 * l.z := Int.mul_le_mul_of_nonneg_right (by omega) (by omega)
      obtain ⟨m, Hm⟩ : ∃ m, Hid (z * l.z = m) := ⟨_, Lib.hid rfl⟩
      rw [Hm.out] at m0 m1
      have hm := Hm.out
      have k1 : IntKind.i64.wrap (z * l.z) = z * l.z := IntWalk.i64_in _ (by omega)
      have k2 : IntKind.i64.wrap (l.f + z * l.z) = l.f + z * l.z := IntWalk.i64_in _ (by omega)
      have k3 : IntKind.i64.wrap (l.f + z * l.z + p) = l.f + z * l.z + p := IntWalk.i64_in _ (by omega)
      have Hk := Lib.hid hk
      rw [hr]
      clear hk hr
      go_enter Try.func29, Try.ntmps29
      go_wp2_with fail
      refine (may_any _ _).mono ?_
      rw [Hk.out]
      rintro e w1 ⟨rfl, hb⟩
      obtain ⟨hl, hb⟩ := layBox _ _ _ hb
      have Hb := Lib.hid hb
      have hlt := hl.lt
      have Hl := Lib.hid hl
      obtain ⟨c0, c1, c2, c3⟩ := hl
      clear hb
      go_wp2
      go_ret
      exact ⟨ret_int (by rw [Hm.out]), Hb.out⟩
    · have hr : layP l z p = -1 := if_neg (fun h => hc h.2)
      have Hk := Lib.hid hk
      rw [hr]
      clear hr
      by_cases h0 : z < 0
      · clear hc hk
        go_enter Try.func29, Try.ntmps29
        go_wp2_with fail
        refine (may_any _ _).mono ?_
        rw [Hk.out]
        rintro e w1 ⟨rfl, hb⟩
        obtain ⟨hl, hb⟩ := layBox _ _ _ hb
        have Hb := Lib.hid hb
        have hlt := hl.lt
        have Hl := Lib.hid hl
        obtain ⟨c0, c1, c2, c3⟩ := hl
        clear hb
        go_wp2
        go_ret
        exact ⟨rfl, Hb.out⟩
      · have h1 : 3 < z := by omega
        clear hc hk
        go_enter Try.func29, Try.ntmps29
        go_wp2_with fail
        refine (may_any _ _).mono ?_
        rw [Hk.out]
        rintro e w1 ⟨rfl, hb⟩
        obtain ⟨hl, hb⟩ := layBox _ _ _ hb
        have Hb := Lib.hid hb
        have hlt := hl.lt
        have Hl := Lib.hid hl
        obtain ⟨c0, c1, c2, c3⟩ := hl
        clear hb
        go_wp2
        go_ret
        exact ⟨rfl, Hb.out⟩
  · have hr : layP l z p = -1 := if_neg (fun h => hk h.1)
    have Hk : Hid (layOk l = false) := Lib.hid (by simpa using hk)
    rw [hr]
    clear hk hr
    go_enter Try.func29, Try.ntmps29
    go_wp2_with fail
    refine (may_any _ _).mono ?_
    rw [Hk.out]
    rintro e w1 ⟨rfl, hb⟩
    obtain ⟨hl, hb⟩ := layBox _ _ _ hb
    have Hb := Lib.hid hb
    clear hb hl
    go_wp2
    go_ret
    exact ⟨rfl, Hb.out⟩
theorem Begin_any (l : Lay) (z : Int) (w : World) :
    Calls Try.prog 13 #[l.v, .int .i64 z] w fun e w' => e = .returned (.int .i64 (layP l z 0)) ∧ Below w.heap.size w w' := by
  go_enter Try.func13, Try.ntmps13
  go_wp2_with fail
  refine (at_any l z 0 (by omega) (by omega) _).mono ?_
  rintro e w1 ⟨rfl, hb⟩
  have Hb := Lib.hid (layBox _ _ _ hb).2
  clear hb
  go_wp2
  go_ret
  exact ⟨rfl, Hb.out⟩
set_option maxRecDepth 100000 in
set_option maxHeartbeats 1000000 in
theorem Room_any (l : Lay) (w : World) :
    Calls Try.prog 15 #[l.v] w fun e w' => e = .returned (.int .i64 (layR l)) ∧ Below w.heap.size w w' := by
  by_cases hk : layOk l = true
  · have hr : layR l = 4 * (l.z - 2) := if_pos hk
    obtain ⟨z0, z1, z2⟩ := (LayOk.of hk).z3
    have Hk := Lib.hid hk
    rw [hr]
    clear hk hr z2
    go_enter Try.func15, Try.ntmps15
    go_wp2_with fail
    refine (may_any _ _).mono ?_
    rw [Hk.out]
    rintro e w1 ⟨rfl, hb⟩
    obtain ⟨hl, hb⟩ := layBox _ _ _ hb
    have Hb := Lib.hid hb
    have hlt := hl.lt
    have Hl := Lib.hid hl
    obtain ⟨c0, c1, c2, c3⟩ := hl
    clear hb
    go_wp2
    go_ret
    exact ⟨rfl, Hb.out⟩
  · have hr : layR l = 0 := if_neg hk
    have Hk : Hid (layOk l = false) := Lib.hid (by simpa using hk)
    rw [hr]
    clear hk hr
    go_enter Try.func15, Try.ntmps15
    go_wp2_with fail
    refine (may_any _ _).mono ?_
    rw [Hk.out]
    rintro e w1 ⟨rfl, hb⟩
    obtain ⟨hl, hb⟩ := layBox _ _ _ hb
    have Hb := Lib.hid hb
    clear hb hl
    go_wp2
    go_ret
    exact ⟨rfl, Hb.out⟩
end Go.Proofs.Ytoakjcmhmlngfaa
