/- A table's queue, told. -/
import Derived.Test.YtgjlcpafkmifoaaAw10
namespace Go.Proofs.Ytgjlcpafkmifoaa
open Go.RowKit

set_option maxRecDepth 100000 in
set_option maxHeartbeats 2000000 in
theorem tQueue_any {w : World} {tb : Nat} {t : Ta} (x : IsT w tb t) {r : Nat} (hr : r < 16) (hz : amgB (r : Int) t.sz = true) :
    Calls Try.prog 25 #[.pointer (some ⟨tb, 0, none⟩), .int .i64 (r : Int)] w fun e w' => ∃ v', e = .returned v' ∧ IsQ w' v' (t.h r) (t.ws r) ∧ Below w.heap.size w w' := by
  obtain ⟨A, na, ca, qa, ia, _⟩ := (x.qh r hr).is
  obtain ⟨B, nb, cb, qb, ib, _⟩ := (x.qw r hr).is
  have hla := ok_len (x.ok r hr)
  have hna : na ≤ 1000 := by have := ia.length; omega
  have hnb : nb ≤ 1000 := by have := ib.length; omega
  have hr0 : (0 : Int) ≤ (r : Int) := by omega
  have hr1 : (r : Int) < 16 := by omega
  have Hz := Lib.hid hz
  obtain ⟨W, HW⟩ : ∃ x, Hid ((w.alloc (.cells #[.slice none 0 0, .slice none 0 0] 57)).alloc (.cells #[.slice A na ca, .slice B nb cb] 57) = x) := ⟨_, Lib.hid rfl⟩
  obtain ⟨p, Hp⟩ : ∃ x, Hid (w.heap.size = x) := ⟨_, Lib.hid rfl⟩
  have HB : Hid (Below w.heap.size w W) := Lib.hid (by rw [← HW.out]; exact balloc (balloc (Below.refl _ _) _) _)
  have HB0 : Hid (Below w.heap.size w (w.alloc (.cells #[.slice none 0 0, .slice none 0 0] 57))) := Lib.hid (balloc (Below.refl _ _) _)
  have hpl : p < W.heap.size := by rw [← HW.out, ← Hp.out]; simp; omega
  have Z0 : Hid (W.cell? ⟨p, 0, none⟩ = some (.slice none 0 0)) := Lib.hid (by rw [← HW.out, ← Hp.out]; simp [go_sem])
  have Z1 : Hid (W.cell? ⟨p, 1, none⟩ = some (.slice none 0 0)) := Lib.hid (by rw [← HW.out, ← Hp.out]; simp [go_sem])
  have F0 : Hid (W.frozen? ⟨p, 0, none⟩ = false) := Lib.hid (by rw [← HW.out, ← Hp.out]; simp [go_sem])
  have F1 : Hid (W.frozen? ⟨p, 1, none⟩ = false) := Lib.hid (by rw [← HW.out, ← Hp.out]; simp [go_sem])
  have Y0 : Hid (W.cell? ⟨p + 1, 0, none⟩ = some (.slice A na ca)) := Lib.hid (by rw [← HW.out, ← Hp.out]; simp [go_sem])
  have Y1 : Hid (W.cell? ⟨p + 1, 1, none⟩ = some (.slice B nb cb)) := Lib.hid (by rw [← HW.out, ← Hp.out]; simp [go_sem])
  have IA := Lib.hid (ia.below HB.out)
  have IB := Lib.hid (ib.below HB.out)
  have c1 := (HB0.out.cell (p := ⟨tb, 1, none⟩) x.lt).trans x.c1
  have s0 := (HB0.out.cell (p := ⟨tb, 2 + r * 2, none⟩) x.lt).trans qa
  have s1 := (HB0.out.cell (p := ⟨tb, 2 + r * 2 + 1, none⟩) x.lt).trans qb
  have q0 : ∀ y : In (Abv W), y.u.cell? ⟨p + 1, 0, none⟩ = some (.slice A na ca) := fun y => (y.is.cell (p := ⟨p + 1, 0, none⟩) (lt_of_cell Y0.out)).trans Y0.out
  have q1 : ∀ y : In (Abv W), y.u.cell? ⟨p + 1, 1, none⟩ = some (.slice B nb cb) := fun y => (y.is.cell (p := ⟨p + 1, 1, none⟩) (lt_of_cell Y0.out)).trans Y1.out
  clear x qa qb ia ib hla hz
  go_enter Try.func25, Try.ntmps25
  go_wp2_with fail
  refine (among_any _ _ _).mono ?_
  rw [Hz.out]
  rintro e w1 ⟨rfl, rfl⟩
  go_wp2_with fail
  rw [HW.out, Hp.out]
  refine wp_region_mix (by kernel_rfl) (Cls (Abv W)) [(0, 0), (1, 0), (3, 0), (4, 0), (2, 1), (5, 1), (6, 0), (7, 2)] (by kernel_rfl) (cls (Below.refl _ W).drew) ?_
  repeat (refine mix0 rfl (fun K hK => ?_); go_simp; refine hK _ ?_; clear hK K)
  refine mix1 rfl (fun K hK => ?_); go_simp
  refine (Clone_any W.drew A na ca (t.h r) (IA.out.below (drewB _)) hna).mono ?_
  rintro e X1 ⟨vh, rfl, rh, gh, bh⟩
  have B1 : Hid (Abv W X1) := Lib.hid (bnext (drewB _) bh)
  obtain ⟨Ah, ch, eh, _, ih⟩ := rh.slice
  obtain ⟨nh, Hnh⟩ : ∃ x, Hid ((t.h r).length = x) := ⟨_, Lib.hid rfl⟩
  rw [Hnh.out] at eh ih
  subst eh
  have Ih := Lib.hid ih
  clear ih
  refine ⟨_, rfl, hK _ _ (cls B1.out) ?_⟩
  clear hK K rh gh bh
  refine mix1 rfl (fun K hK => ?_); go_simp
  refine (Clone_any X1 B nb cb (t.ws r) (IB.out.below B1.out) hnb).mono ?_
  rintro e X2 ⟨vw, rfl, rw2, gw, bw⟩
  have B2 : Hid (Abv W X2) := Lib.hid (bnext B1.out bw)
  obtain ⟨Aw, cw, ew, _, iw⟩ := rw2.slice
  obtain ⟨nw, Hnw⟩ : ∃ x, Hid ((t.ws r).length = x) := ⟨_, Lib.hid rfl⟩
  rw [Hnw.out] at ew iw
  subst ew
  have Iw := Lib.hid iw
  have Ih2 := Lib.hid (Ih.out.below bw)
  clear iw
  refine ⟨_, rfl, hK _ _ (cls B2.out) ?_⟩
  clear hK K rw2 gw bw
  repeat (refine mix0 rfl (fun K hK => ?_); go_simp; refine hK _ ?_; clear hK K)
  have z0 := (B2.out.cell (p := ⟨p, 0, none⟩) hpl).trans Z0.out
  have z1 := (B2.out.cell (p := ⟨p, 1, none⟩) hpl).trans Z1.out
  have f0 := (B2.out.frozen (p := ⟨p, 0, none⟩) hpl).trans F0.out
  have f1 := (B2.out.frozen (p := ⟨p, 1, none⟩) hpl).trans F1.out
  have Hc := Lib.hid (And.intro z0 (And.intro z1 (And.intro f0 f1)))
  refine mix2 rfl (fun K hK => ?_); go_simp; refine hK _ _ ?_; clear hK K
  refine mixEnd ?_
  clear q0 q1 z0 z1 f0 f1
  have e0 : ((X2.setCell ⟨p, 0, none⟩ (.slice Ah nh ch)).setCell ⟨p, 1, none⟩ (.slice Aw nw cw)).cell? ⟨p, 0, none⟩ = some (.slice Ah nh ch) := set_other (by simp) (set_same Hc.out.1)
  have e1 : ((X2.setCell ⟨p, 0, none⟩ (.slice Ah nh ch)).setCell ⟨p, 1, none⟩ (.slice Aw nw cw)).cell? ⟨p, 1, none⟩ = some (.slice Aw nw cw) := set_same (set_other (by simp) Hc.out.2.1)
  have k1 : (X2.setCell ⟨p, 0, none⟩ (.slice Ah nh ch)).cell? ⟨p, 1, none⟩ = some (.slice none 0 0) := set_other (by simp) Hc.out.2.1
  have I1 := Lib.hid ((Ih2.out.set_slice Hc.out.1 (.slice Ah nh ch)).set_slice k1 (.slice Aw nw cw))
  have I2 := Lib.hid ((Iw.out.set_slice Hc.out.1 (.slice Ah nh ch)).set_slice k1 (.slice Aw nw cw))
  clear k1
  go_wp2
  refine bodyPost_ret (v := .agg #[.slice Ah nh ch, .slice Aw nw cw]) ?_ rfl ⟨_, rfl, ⟨Ah, nh, ch, Aw, nw, cw, rfl, I1.out, I2.out⟩, ?_⟩
  · rw [results_cell1 rfl]
    go_simp
  · refine bmod (bmod (bnext HB.out B2.out) ((Mod.refl (· = p) X2).set1 _) ?_) ((Mod.refl (· = p) _).set1 _) ?_
    · have := Hp.out; omega
    · have := Hp.out; omega
end Go.Proofs.Ytgjlcpafkmifoaa
