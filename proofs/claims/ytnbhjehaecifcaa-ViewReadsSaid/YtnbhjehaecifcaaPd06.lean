/- The program's way to read a view: its closures, and rows of what they tell. -/
import Derived.Test.YtnbhjehaecifcaaPkR
import Derived.Test.YtnbhjehaecifcaaRp06
namespace Go.Proofs.Ytnbhjehaecifcaa
open Go.RowKit

/-- The reader in block b, and the three variables that the closures share. -/
structure PE (w : World) (b R C D : Nat) (l : List UInt8) : Prop where
  rd : ∃ br, Rd w b l br
  pr : w.cell? ⟨R, 0, none⟩ = some (.pointer (some ⟨b, 0, none⟩))
  pc : w.cell? ⟨C, 0, none⟩ = some (.func (.func 28) #[] #[.pointer (some ⟨R, 0, none⟩)])
  pd : w.cell? ⟨D, 0, none⟩ = some (.func (.func 30) #[] #[.pointer (some ⟨R, 0, none⟩), .pointer (some ⟨C, 0, none⟩)])
  nr : R ≠ b
  nc : C ≠ b
  nd : D ≠ b
section
variable {w w' : World} {b R C D : Nat} {l l' : List UInt8} {S : Nat → Prop}
theorem PE.lt (h : PE w b R C D l) : b < w.heap.size ∧ R < w.heap.size ∧ C < w.heap.size ∧ D < w.heap.size := by
  obtain ⟨br, h1⟩ := h.rd
  exact ⟨h1.lt, lt_of_cell h.pr, lt_of_cell h.pc, lt_of_cell h.pd⟩
theorem PE.keep (h : PE w b R C D l) (m : Mod S w w') (hs : ∀ i, i < w.heap.size → ¬ S i) : PE w' b R C D l := by
  obtain ⟨l1, l2, l3, l4⟩ := h.lt
  obtain ⟨br, h1⟩ := h.rd
  exact ⟨⟨br, h1.later m (hs _ l1)⟩, (m.cell (p := ⟨R, 0, none⟩) l2 (hs _ l2)).trans h.pr, (m.cell (p := ⟨C, 0, none⟩) l3 (hs _ l3)).trans h.pc, (m.cell (p := ⟨D, 0, none⟩) l4 (hs _ l4)).trans h.pd, h.nr, h.nc, h.nd⟩
theorem PE.other (h : PE w b R C D l) (m : Mod S w w') (h1 : ¬ S b) (h2 : ¬ S R) (h3 : ¬ S C) (h4 : ¬ S D) : PE w' b R C D l := by
  obtain ⟨l1, l2, l3, l4⟩ := h.lt
  obtain ⟨br, hr⟩ := h.rd
  exact ⟨⟨br, hr.later m h1⟩, (m.cell (p := ⟨R, 0, none⟩) l2 h2).trans h.pr, (m.cell (p := ⟨C, 0, none⟩) l3 h3).trans h.pc, (m.cell (p := ⟨D, 0, none⟩) l4 h4).trans h.pd, h.nr, h.nc, h.nd⟩
theorem PE.below (h : PE w b R C D l) (m : Below w.heap.size w w') : PE w' b R C D l := h.keep (Mod.of_below (S := fun _ => False) m) (fun _ _ => id)
theorem PE.read (h : PE w b R C D l) (m : Mod (· = b) w w') {br : Bool} (hr : Rd w' b l' br) : PE w' b R C D l' := by
  obtain ⟨l1, l2, l3, l4⟩ := h.lt
  exact ⟨⟨br, hr⟩, (m.cell (p := ⟨R, 0, none⟩) l2 h.nr).trans h.pr, (m.cell (p := ⟨C, 0, none⟩) l3 h.nc).trans h.pc, (m.cell (p := ⟨D, 0, none⟩) l4 h.nd).trans h.pd, h.nr, h.nc, h.nd⟩
end
theorem mod_new {w w1 w2 : World} {p q b : Nat} (h : Below w.heap.size w w1) (m : Mod (fun i => i = p ∨ i = q ∨ i = b) w1 w2) (hp : w.heap.size ≤ p) (hq : w.heap.size ≤ q) : Mod (· = b) w w2 :=
  ⟨m.os.trans h.os, m.tape.trans h.tape, m.output.trans h.output, Nat.le_trans h.size m.size, fun k hk hb => (m.block k (Nat.lt_of_lt_of_le hk h.size) (fun e => by rcases e with e | e | e; omega; omega; exact hb e)).trans (h.block k hk)⟩
/-- Worlds in which block b alone may have turned. -/
abbrev Exc (b : Nat) (w : World) : World → Prop := fun u => Mod (· = b) w u
instance (b : Nat) (w : World) : Nonempty (In (Exc b w)) := ⟨⟨w, Mod.refl _ _⟩⟩
theorem rcount_any (w : World) (b R C D : Nat) (l : List UInt8) (h : PE w b R C D l) :
    Calls Try.prog 28 #[.pointer (some ⟨R, 0, none⟩)] w fun e w' => e = .returned (.int .i64 (i8 l)) ∧ PE w' b R C D (r8 l) ∧ Mod (· = b) w w' := by
  have H := Lib.hid h
  obtain ⟨br, h1⟩ := h.rd
  have H1 := Lib.hid h1
  have c0 := h.pr
  obtain ⟨z, Hz⟩ : ∃ z, Hid ((eightV l 1099511627776 : Nat) = z) := ⟨_, Lib.hid rfl⟩
  have Hi : Hid (i8 l = (z : Int)) := Lib.hid (by rw [← Hz.out]; rfl)
  rw [Hi.out]
  clear h h1
  go_enter Try.func28, Try.ntmps28
  go_wp2_with fail
  refine (REight_any b l br 1099511627776 (by omega) (by omega) w H1.out).mono ?_
  rw [Hz.out]
  rintro e w1 ⟨rfl, hm, hr⟩
  have HP : Hid (PE w1 b R C D (r8 l)) := Lib.hid (H.out.read hm hr)
  have Hm := Lib.hid hm
  clear hm hr c0
  go_wp2
  go_ret
  exact ⟨rfl, HP.out, Hm.out⟩
theorem two_read (w : World) (b R C D : Nat) (l : List UInt8) (h : PE w b R C D l) :
    Calls Try.prog 31 #[.pointer (some ⟨b, 0, none⟩)] w fun e w' => e = .returned (.int .i64 (i2 l)) ∧ PE w' b R C D (r2 l) ∧ Mod (· = b) w w' := by
  obtain ⟨br, h1⟩ := h.rd
  exact (RTwo_any b l br w h1).mono fun e w' ⟨he, hm, hr⟩ => ⟨he, h.read hm hr, hm⟩
set_option maxHeartbeats 1000000 in
theorem rdead_any (w : World) (b R C D : Nat) (l : List UInt8) (h : PE w b R C D l) :
    Calls Try.prog 30 #[.pointer (some ⟨R, 0, none⟩), .pointer (some ⟨C, 0, none⟩)] w fun e w' => e = .returned (mbV (dV l)) ∧ PE w' b R C D (dR l) ∧ Mod (· = b) w w' := by
  have H := Lib.hid h
  obtain ⟨x, Hx⟩ : ∃ x, Hid (i2 l = x) := ⟨_, Lib.hid rfl⟩
  obtain ⟨y, Hy⟩ : ∃ x, Hid (i8 (r2 l) = x) := ⟨_, Lib.hid rfl⟩
  have Hv : Hid (dV l = (x, y, false)) := Lib.hid (by rw [dV, Hx.out, Hy.out])
  rw [Hv.out]
  clear h
  go_enter Try.func30, Try.ntmps30
  go_upto_region 1 with (fail)
  obtain ⟨w1, Hw1⟩ : ∃ w1, Hid (w.alloc (.cells #[.int .i64 0, .int .i64 0, .bool false] 43) = w1) := ⟨_, Lib.hid rfl⟩
  obtain ⟨p, Hp⟩ : ∃ p, Hid (w.heap.size = p) := ⟨_, Lib.hid rfl⟩
  have HA : Hid (BoxM w1 p (0, 0, false)) := Lib.hid (by rw [← Hw1.out, ← Hp.out]; exact BoxM.new w (0, 0, false))
  have HB : Hid (Below w.heap.size w w1) := Lib.hid (by rw [← Hw1.out]; exact (Below.refl _ _).alloc (Nat.le_refl _) _)
  have H1 := Lib.hid (H.out.below HB.out)
  have hpb : Hid (p ≠ b ∧ b < w1.heap.size ∧ R < w1.heap.size ∧ C < w1.heap.size) := Lib.hid (by
    have h1 := H.out.lt
    have h2 := H1.out.lt
    have h3 := Hp.out
    exact ⟨by omega, h2.1, h2.2.1, h2.2.2.1⟩)
  rw [Hw1.out, Hp.out]
  have k0 : ∀ y : In (Exc b w1), y.u.cell? ⟨R, 0, none⟩ = some (.pointer (some ⟨b, 0, none⟩)) := fun y => (y.is.cell (p := ⟨R, 0, none⟩) hpb.out.2.2.1 H1.out.nr).trans H1.out.pr
  have k1 : ∀ y : In (Exc b w1), y.u.cell? ⟨C, 0, none⟩ = some (.func (.func 28) #[] #[.pointer (some ⟨R, 0, none⟩)]) := fun y => (y.is.cell (p := ⟨C, 0, none⟩) hpb.out.2.2.2 H1.out.nc).trans H1.out.pc
  refine wp_region_mix (by kernel_rfl) (Cls (Exc b w1)) [(0, 0), (2, 0), (1, 1), (3, 1), (4, 0), (5, 2)] (by kernel_rfl) (cls (Mod.refl _ _).drew) ?_
  repeat (refine mix0 rfl (fun K hK => ?_); go_simp; refine hK _ ?_; clear hK K)
  refine mix1 rfl (fun K hK => ?_)
  go_simp
  refine (two_read _ b R C D l (H1.out.keep (Mod.refl (fun _ => False) w1).drew (fun _ _ => id))).mono ?_
  rw [Hx.out]
  rintro e w2 ⟨rfl, hp2, hm2⟩
  have HP2 := Lib.hid hp2
  have HM2 : Hid (Mod (· = b) w1 w2) := Lib.hid ((Mod.refl _ w1).drew.trans hm2)
  clear hp2 hm2
  refine ⟨_, rfl, hK _ _ (cls HM2.out) ?_⟩
  clear hK K
  repeat (refine mix0 rfl (fun K hK => ?_); go_simp; refine hK _ ?_; clear hK K)
  refine mix1 rfl (fun K hK => ?_)
  go_simp
  refine (rcount_any _ b R C D (r2 l) HP2.out).mono ?_
  rw [Hy.out]
  rintro e w3 ⟨rfl, hp3, hm3⟩
  have HP3 : Hid (PE w3 b R C D (dR l)) := Lib.hid hp3
  have HM3 : Hid (Mod (· = b) w1 w3) := Lib.hid (HM2.out.trans hm3)
  clear hp3 hm3
  refine ⟨_, rfl, hK _ _ (cls HM3.out) ?_⟩
  clear hK K
  repeat (refine mix0 rfl (fun K hK => ?_); go_simp; refine hK _ ?_; clear hK K)
  have HA3 : Hid (BoxM w3 p (0, 0, false)) := Lib.hid ⟨(HM3.out.block p HA.out.lt hpb.out.1).trans HA.out.blk⟩
  have q0 := HA3.out.cells.1
  have q1 := HA3.out.cells.2.1
  have q2 := HA3.out.cells.2.2
  have f0 := HA3.out.free 0
  have f1 := HA3.out.free 1
  have f2 := HA3.out.free 2
  refine mix2 rfl (fun K hK => ?_)
  go_simp
  refine hK _ _ ?_
  clear hK K
  refine mixEnd ?_
  clear k0 k1
  have HS := Lib.hid (HA3.out.set (x, y, false))
  have s0 := HS.out.cells.1
  have s1 := HS.out.cells.2.1
  have s2 := HS.out.cells.2.2
  have Hend : Hid (PE (((w3.setCell ⟨p, 0, none⟩ (.int .i64 x)).setCell ⟨p, 1, none⟩ (.int .i64 y)).setCell ⟨p, 2, none⟩ (.bool false)) b R C D (dR l) ∧ Mod (· = b) w (((w3.setCell ⟨p, 0, none⟩ (.int .i64 x)).setCell ⟨p, 1, none⟩ (.int .i64 y)).setCell ⟨p, 2, none⟩ (.bool false))) := Lib.hid (by
    have h1 := H.out.lt
    have h2 := Hp.out
    have m3 : Mod (· = p) w3 (((w3.setCell ⟨p, 0, none⟩ (.int .i64 x)).setCell ⟨p, 1, none⟩ (.int .i64 y)).setCell ⟨p, 2, none⟩ (.bool false)) := (((Mod.refl (· = p) w3).set1 _).set1 _).set1 _
    refine ⟨HP3.out.other m3 (by omega) (by omega) (by omega) (by omega), mod_new (p := p) (q := p) HB.out ((HM3.out.mono fun k _ h => .inr (.inr h)).trans (m3.mono fun k _ h => .inl h)) (by omega) (by omega)⟩)
  go_wp2
  exact bodyPost_ret (v := mbV (x, y, false)) (by simp [results, Try.results30, go_sem, s0, s1, s2]) rfl ⟨rfl, Hend.out⟩
set_option maxHeartbeats 1000000 in
theorem rmember_any (w : World) (b R C D : Nat) (l : List UInt8) (h : PE w b R C D l) :
    Calls Try.prog 32 #[.pointer (some ⟨D, 0, none⟩), .pointer (some ⟨R, 0, none⟩)] w fun e w' => e = .returned (mbV (mV l)) ∧ PE w' b R C D (mR l) ∧ Mod (· = b) w w' := by
  have H := Lib.hid h
  obtain ⟨x, Hx⟩ : ∃ x, Hid (i2 l = x) := ⟨_, Lib.hid rfl⟩
  obtain ⟨y, Hy⟩ : ∃ x, Hid (i8 (r2 l) = x) := ⟨_, Lib.hid rfl⟩
  obtain ⟨z, Hz⟩ : ∃ x, Hid (i2 (dR l) = x) := ⟨_, Lib.hid rfl⟩
  have Hv : Hid (dV l = (x, y, false)) := Lib.hid (by rw [dV, Hx.out, Hy.out])
  have Hv2 : Hid (mV l = (x, y, z == 1)) := Lib.hid (by rw [mV, Hx.out, Hy.out, Hz.out])
  rw [Hv2.out]
  clear h
  go_enter Try.func32, Try.ntmps32
  go_upto_region 1 with (fail)
  obtain ⟨w1, Hw1⟩ : ∃ w1, Hid (w.alloc (.cells #[.int .i64 0, .int .i64 0, .bool false] 43) = w1) := ⟨_, Lib.hid rfl⟩
  obtain ⟨p, Hp⟩ : ∃ p, Hid (w.heap.size = p) := ⟨_, Lib.hid rfl⟩
  have HA : Hid (BoxM w1 p (0, 0, false)) := Lib.hid (by rw [← Hw1.out, ← Hp.out]; exact BoxM.new w (0, 0, false))
  have HB : Hid (Below w.heap.size w w1) := Lib.hid (by rw [← Hw1.out]; exact (Below.refl _ _).alloc (Nat.le_refl _) _)
  have H1 := Lib.hid (H.out.below HB.out)
  have hlt : Hid (b < p ∧ R < p ∧ C < p ∧ D < p) := Lib.hid (by have h1 := H.out.lt; have h2 := Hp.out; exact ⟨by omega, by omega, by omega, by omega⟩)
  rw [Hw1.out, Hp.out]
  have c0 := H1.out.pd
  go_wp2_with fail
  refine (rdead_any _ b R C D l H1.out).mono ?_
  rw [Hv.out]
  rintro e w2 ⟨rfl, hp2, hm2⟩
  have HP2 := Lib.hid hp2
  have HM2 : Hid (Mod (· = b) w1 w2) := Lib.hid hm2
  clear hp2 hm2 c0
  go_upto_region 2 with (fail)
  obtain ⟨w3, Hw3⟩ : ∃ w3, Hid (w2.alloc (.cells #[.int .i64 x, .int .i64 y, .bool false] 43) = w3) := ⟨_, Lib.hid rfl⟩
  obtain ⟨q, Hq⟩ : ∃ p, Hid (w2.heap.size = p) := ⟨_, Lib.hid rfl⟩
  have HQ : Hid (BoxM w3 q (x, y, false)) := Lib.hid (by rw [← Hw3.out, ← Hq.out]; exact BoxM.new w2 (x, y, false))
  have HB3 : Hid (Below w2.heap.size w2 w3) := Lib.hid (by rw [← Hw3.out]; exact (Below.refl _ _).alloc (Nat.le_refl _) _)
  have H3 := Lib.hid (HP2.out.below HB3.out)
  have HM3 : Hid (Mod (· = b) w1 w3) := Lib.hid (HM2.out.trans (Mod.of_below HB3.out))
  have hpq : Hid (p < q) := Lib.hid (by have h1 := HA.out.lt; have h2 := HM2.out.size; have h3 := Hq.out; omega)
  rw [Hw3.out, Hq.out]
  have c1 := H3.out.pr
  go_wp2_with fail
  refine (two_read _ b R C D (dR l) H3.out).mono ?_
  rw [Hz.out]
  rintro e w4 ⟨rfl, hp4, hm4⟩
  have HP4 : Hid (PE w4 b R C D (mR l)) := Lib.hid hp4
  have HM4 : Hid (Mod (· = b) w1 w4) := Lib.hid (HM3.out.trans hm4)
  have HQ4 : Hid (BoxM w4 q (x, y, false)) := Lib.hid ⟨(hm4.block q HQ.out.lt (by have h1 := hlt.out; have h2 := hpq.out; omega)).trans HQ.out.blk⟩
  have HA4 : Hid (BoxM w4 p (0, 0, false)) := Lib.hid ⟨(HM4.out.block p HA.out.lt (by have h1 := hlt.out; omega)).trans HA.out.blk⟩
  clear hp4 hm4 c1
  have q0 := HQ4.out.cells.1
  have q1 := HQ4.out.cells.2.1
  have q2 := HQ4.out.cells.2.2
  have f0 := HQ4.out.free 0
  have f1 := HQ4.out.free 1
  have f2 := HQ4.out.free 2
  go_upto_region 3 with (fail)
  obtain ⟨w5, Hw5⟩ : ∃ w5, Hid (w4.setCell ⟨q, 2, none⟩ (.bool (z == 1)) = w5) := ⟨_, Lib.hid rfl⟩
  have m5 : Mod (· = q) w4 w5 := by rw [← Hw5.out]; exact (Mod.refl (· = q) w4).set1 _
  have HQ5 : Hid (w5.cell? ⟨q, 0, none⟩ = some (.int .i64 x) ∧ w5.cell? ⟨q, 1, none⟩ = some (.int .i64 y) ∧ w5.cell? ⟨q, 2, none⟩ = some (.bool (z == 1))) := Lib.hid (by
    rw [← Hw5.out]
    exact ⟨set_other (by simp) q0, set_other (by simp) q1, set_same q2⟩)
  have HA5 : Hid (BoxM w5 p (0, 0, false)) := Lib.hid ⟨(m5.block p HA4.out.lt (by have h2 := hpq.out; omega)).trans HA4.out.blk⟩
  have HM5 := Lib.hid m5
  clear m5 q0 q1 q2 f0 f1 f2
  rw [Hw5.out]
  have q0 := HQ5.out.1
  have q1 := HQ5.out.2.1
  have q2 := HQ5.out.2.2
  have z0 := HA5.out.cells.1
  have z1 := HA5.out.cells.2.1
  have z2 := HA5.out.cells.2.2
  have f0 := HA5.out.free 0
  have f1 := HA5.out.free 1
  have f2 := HA5.out.free 2
  have HS := Lib.hid (HA5.out.set (x, y, z == 1))
  have s0 := HS.out.cells.1
  have s1 := HS.out.cells.2.1
  have s2 := HS.out.cells.2.2
  have Hend : Hid (PE (((w5.setCell ⟨p, 0, none⟩ (.int .i64 x)).setCell ⟨p, 1, none⟩ (.int .i64 y)).setCell ⟨p, 2, none⟩ (.bool (z == 1))) b R C D (mR l) ∧ Mod (· = b) w (((w5.setCell ⟨p, 0, none⟩ (.int .i64 x)).setCell ⟨p, 1, none⟩ (.int .i64 y)).setCell ⟨p, 2, none⟩ (.bool (z == 1)))) := Lib.hid (by
    have h1 := hlt.out
    have h2 := Hp.out
    have h3 := hpq.out
    have m6 : Mod (· = p) w5 (((w5.setCell ⟨p, 0, none⟩ (.int .i64 x)).setCell ⟨p, 1, none⟩ (.int .i64 y)).setCell ⟨p, 2, none⟩ (.bool (z == 1))) := (((Mod.refl (· = p) w5).set1 _).set1 _).set1 _
    refine ⟨(HP4.out.other HM5.out (by omega) (by omega) (by omega) (by omega)).other m6 (by omega) (by omega) (by omega) (by omega), mod_new (p := p) (q := q) HB.out (((HM4.out.mono fun k _ h => .inr (.inr h)).trans (HM5.out.mono fun k _ h => .inr (.inl h))).trans (m6.mono fun k _ h => .inl h)) (by omega) (by omega)⟩)
  go_wp2
  exact bodyPost_ret (v := mbV (x, y, z == 1)) (by simp [results, Try.results32, go_sem, s0, s1, s2]) rfl ⟨rfl, Hend.out⟩
end Go.Proofs.Ytnbhjehaecifcaa
