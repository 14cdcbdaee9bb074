/- A line: who has a resource, who waits for it; what give makes of it. -/
import Derived.Test.YthpmodohfjjjcaaIns9
namespace Go.Proofs.Ythpmodohfjjjcaa
open Go.RowKit

structure Ln (w : World) (L : Nat) (v1 v2 : Value) (h ws : List Cl) : Prop where
  c0 : w.cell? ⟨L, 0, none⟩ = some v1
  c1 : w.cell? ⟨L, 1, none⟩ = some v2
  f0 : w.frozen? ⟨L, 0, none⟩ = false
  f1 : w.frozen? ⟨L, 1, none⟩ = false
  has : RC w v1 h
  waits : RC w v2 ws
  d1 : blk v1 ≠ some L
  d2 : blk v2 ≠ some L
  d : ∀ g, blk v1 = some g → blk v2 ≠ some g
/-- The block is that of the old one, or a new one. -/
def Nb (w : World) (v v' : Value) : Prop := blk v' = blk v ∨ ∃ g, blk v' = some g ∧ w.heap.size ≤ g
theorem Nb.same (w : World) (v : Value) : Nb w v v := .inl rfl
theorem Nb.trans {w w2 : World} {a b c : Value} (h : Nb w a b) (hw : w.heap.size ≤ w2.heap.size) (k : Nb w2 b c) : Nb w a c := by
  rcases k with e | ⟨g, e, hg⟩
  · rcases h with e2 | ⟨g, e2, hg⟩
    · exact .inl (e.trans e2)
    · exact .inr ⟨g, e.trans e2, hg⟩
  · exact .inr ⟨g, e, by omega⟩
theorem Nb.from {w w2 : World} {a b : Value} (hw : w.heap.size ≤ w2.heap.size) (k : Nb w2 a b) : Nb w a b := Nb.trans (Nb.same w a) hw k
/-- One that is not the old one, and was there, is not the new one. -/
theorem Nb.not {w : World} {v v' : Value} {g : Nat} (h : Nb w v v') (hg : g < w.heap.size) (hn : blk v ≠ some g) : blk v' ≠ some g := by
  rcases h with e | ⟨g', e, hg'⟩
  · rw [e]; exact hn
  · rw [e]; intro e2; injection e2 with e2; omega
theorem Ln.lt {w : World} {L : Nat} {v1 v2 : Value} {h ws : List Cl} (x : Ln w L v1 v2 h ws) : L < w.heap.size := lt_of_cell x.c0
/-- What has not turned the line. -/
theorem Ln.later {S : Nat → Prop} {w w' : World} {L : Nat} {v1 v2 : Value} {h ws : List Cl} (x : Ln w L v1 v2 h ws) (m : Mod S w w') (hL : ¬ S L) (h1 : ∀ g, blk v1 = some g → ¬ S g) (h2 : ∀ g, blk v2 = some g → ¬ S g) : Ln w' L v1 v2 h ws :=
  ⟨(m.cell (p := ⟨L, 0, none⟩) x.lt hL).trans x.c0, (m.cell (p := ⟨L, 1, none⟩) x.lt hL).trans x.c1, (m.frozen (p := ⟨L, 0, none⟩) x.lt hL).trans x.f0, (m.frozen (p := ⟨L, 1, none⟩) x.lt hL).trans x.f1, x.has.later m h1, x.waits.later m h2, x.d1, x.d2, x.d⟩
theorem Ln.below {w w' : World} {L : Nat} {v1 v2 : Value} {h ws : List Cl} (x : Ln w L v1 v2 h ws) (b : Below w.heap.size w w') : Ln w' L v1 v2 h ws := x.later (Mod.of_below (S := fun _ => False) b) id (fun _ _ => id) (fun _ _ => id)
/-- Another row of those that have it, stored. -/
theorem Ln.has' {w w2 : World} {L : Nat} {v1 v2 v1' : Value} {h ws h' : List Cl} (x : Ln w L v1 v2 h ws) (m : Mod (fun g => blk v1 = some g) w w2) (r : RC w2 v1' h') (n : Nb w v1 v1') : Ln (w2.setCell ⟨L, 0, none⟩ v1') L v1' v2 h' ws := by
  have hl := x.lt
  have e0 := (m.cell (p := ⟨L, 0, none⟩) hl x.d1).trans x.c0
  have e1 := (m.cell (p := ⟨L, 1, none⟩) hl x.d1).trans x.c1
  have k0 := (m.frozen (p := ⟨L, 0, none⟩) hl x.d1).trans x.f0
  have k1 := (m.frozen (p := ⟨L, 1, none⟩) hl x.d1).trans x.f1
  have hm : Mod (· = L) w2 (w2.setCell ⟨L, 0, none⟩ v1') := (Mod.refl _ w2).set1 _
  have n1 : blk v1' ≠ some L := n.not hl x.d1
  have hw := x.waits.later m (fun g hg e => x.d g e hg)
  refine ⟨set_same e0, set_other (by simp) e1, set_frozen k0, set_frozen k1, r.later hm (fun g hg e => n1 (e ▸ hg)), hw.later hm (fun g hg e => x.d2 (e ▸ hg)), n1, x.d2, fun g hg h2 => ?_⟩
  have := x.waits.lt h2
  exact (n.not this (fun e => x.d g e h2)) hg
theorem Ln.waits' {w w2 : World} {L : Nat} {v1 v2 v2' : Value} {h ws ws' : List Cl} (x : Ln w L v1 v2 h ws) (m : Mod (fun g => blk v2 = some g) w w2) (r : RC w2 v2' ws') (n : Nb w v2 v2') : Ln (w2.setCell ⟨L, 1, none⟩ v2') L v1 v2' h ws' := by
  have hl := x.lt
  have e0 := (m.cell (p := ⟨L, 0, none⟩) hl x.d2).trans x.c0
  have e1 := (m.cell (p := ⟨L, 1, none⟩) hl x.d2).trans x.c1
  have k0 := (m.frozen (p := ⟨L, 0, none⟩) hl x.d2).trans x.f0
  have k1 := (m.frozen (p := ⟨L, 1, none⟩) hl x.d2).trans x.f1
  have hm : Mod (· = L) w2 (w2.setCell ⟨L, 1, none⟩ v2') := (Mod.refl _ w2).set1 _
  have n1 : blk v2' ≠ some L := n.not hl x.d2
  have hw := x.has.later m (fun g hg e => x.d g hg e)
  refine ⟨set_other (by simp) e0, set_same e1, set_frozen k0, set_frozen k1, hw.later hm (fun g hg e => x.d1 (e ▸ hg)), r.later hm (fun g hg e => n1 (e ▸ hg)), x.d1, n1, fun g hg h2 => ?_⟩
  have := x.has.lt hg
  exact (n.not this (x.d g hg)) h2
/-- Worlds where the block of a slice alone has turned. -/
abbrev Mdb (w : World) (v : Value) : World → Prop := fun u => Mod (fun g => blk v = some g) w u
instance (w : World) (v : Value) : Nonempty (In (Mdb w v)) := ⟨⟨w, Mod.refl _ _⟩⟩

/-! ### give -/
def atM (l : List Cl) (z : Int) : Nat := if idxM (behQ z) l < 0 then l.length else (idxM (behQ z) l).toNat
def delM (l : List Cl) (z : Int) : List Cl := outC (ofQ z) l
def giveM (h : List Cl) (c : Cl) : List Cl := if c.2 = 0 then delM h c.1 else insC (delM h c.1) (atM (delM h c.1) c.1) c
theorem idx_le (p : Cl → Bool) (l : List Cl) : idxM p l ≤ (l.length : Int) := by
  unfold idxM
  split
  · have := List.findIdx_le_length (p := p) (xs := l); omega
  · omega
theorem idx_ge (p : Cl → Bool) (l : List Cl) : -1 ≤ idxM p l := by
  unfold idxM
  split <;> omega
theorem atM_le (l : List Cl) (z : Int) : atM l z ≤ l.length := by
  unfold atM
  have := idx_le (behQ z) l
  split
  · exact Nat.le_refl _
  · omega
theorem delM_length (l : List Cl) (z : Int) : (delM l z).length ≤ l.length := List.length_filter_le _ _
theorem giveM_length (h : List Cl) (c : Cl) : (giveM h c).length ≤ h.length + 1 := by
  have := delM_length h c.1
  unfold giveM
  split
  · omega
  · rw [insC_length]; omega
set_option maxRecDepth 100000 in
theorem del_of (w : World) (v : Value) (l : List Cl) (h : RC w v l) (b : Nat) (z : Int) (hz : w.cell? ⟨b, 0, none⟩ = some (.int .i64 z)) (hb : blk v ≠ some b) :
    Calls Try.prog 89 #[v, .func (.func 99) #[] #[.pointer (some ⟨b, 0, none⟩)]] w fun e w' => ∃ v', e = .returned v' ∧ RC w' v' (delM l z) ∧ blk v' = blk v ∧ Mod (fun g => blk v = some g) w w' :=
  DeleteFunc_any 99 (ofQ z) b (.int .i64 z) (fun _ _ => rfl) (fun u c hu => of_run b z u c hu) w hz v l h hb
set_option maxHeartbeats 2000000 in
set_option maxRecDepth 100000 in
theorem give_any (w : World) (L : Nat) (v1 v2 : Value) (h ws : List Cl) (x : Ln w L v1 v2 h ws) (c : Cl) (hc : (Lit.int .i64 c.1).wf = true ∧ (Lit.int .i64 c.2).wf = true) (hn : h.length ≤ 800) :
    Calls Try.prog 85 #[.pointer (some ⟨L, 0, none⟩), clV c] w fun e w' => e = .returned (.tuple #[]) ∧ ∃ v1', Ln w' L v1' v2 (giveM h c) ws ∧ Mod (fun g => g = L ∨ blk v1 = some g) w w' ∧ Nb w v1 v1' := by
  have X := Lib.hid x
  have hl := x.lt
  obtain ⟨W, HW⟩ : ∃ W, Hid (w.alloc (.cells #[.int .i64 c.1, .int .i64 c.2] 61) = W) := ⟨_, Lib.hid rfl⟩
  have HBW : Hid (Below w.heap.size w W) := Lib.hid (by rw [← HW.out]; exact balloc (Below.refl _ _) _)
  have XW := Lib.hid (x.below HBW.out)
  obtain ⟨p, Hp⟩ : ∃ p, Hid (w.heap.size = p) := ⟨_, Lib.hid rfl⟩
  have HpW : Hid (p < W.heap.size) := Lib.hid (by rw [← Hp.out, ← HW.out]; simp)
  have HpL : Hid (L < p) := Lib.hid (by rw [← Hp.out]; exact hl)
  have Hp1 : Hid (blk v1 ≠ some p) := Lib.hid (fun e => by have := x.has.lt e; rw [← Hp.out] at e; have := x.has.lt e; omega)
  have q0 : ∀ y : In (Mdb W v1), y.u.cell? ⟨L, 0, none⟩ = some v1 := fun y => (y.is.cell (p := ⟨L, 0, none⟩) XW.out.lt XW.out.d1).trans XW.out.c0
  have q1 : ∀ y : In (Mdb W v1), y.u.cell? ⟨p, 0, none⟩ = some (.int .i64 c.1) := fun y => (y.is.cell (p := ⟨p, 0, none⟩) HpW.out Hp1.out).trans (by rw [← HW.out, ← Hp.out]; simp [go_sem])
  clear x
  go_enter Try.func85, Try.ntmps85
  go_wp2_with fail
  rw [HW.out, Hp.out]
  refine wp_region_mix (by kernel_rfl) (Cls (Mdb W v1)) [(0, 0), (1, 0), (2, 0), (3, 0), (4, 0), (5, 0), (6, 0), (7, 1), (8, 1), (9, 0), (10, 0), (11, 2)] (by kernel_rfl) (cls (Mod.refl _ W).drew) ?_
  repeat (refine mix0 rfl (fun K hK => ?_); go_simp; refine hK _ ?_; clear hK K)
  refine mix1 rfl (fun K hK => ?_)
  go_simp
  refine (of_any _ c.1).mono ?_
  rintro e w1 ⟨rfl, rfl⟩
  obtain ⟨q, Hq⟩ : ∃ q, Hid (W.drew.heap.size = q) := ⟨_, Lib.hid rfl⟩
  obtain ⟨W1, HW1⟩ : ∃ W1, Hid (W.drew.alloc (.cells #[.int .i64 c.1] 3) = W1) := ⟨_, Lib.hid rfl⟩
  have HM1 : Hid (Mdb W v1 W1) := Lib.hid (by rw [← HW1.out]; exact (Mod.refl _ W).drew.alloc _)
  have HX1 : Hid (Ln W1 L v1 v2 h ws) := Lib.hid (by rw [← HW1.out]; exact XW.out.below (balloc (Below.refl _ _).drew _))
  have Hz1 : Hid (W1.cell? ⟨q, 0, none⟩ = some (.int .i64 c.1)) := Lib.hid (by rw [← HW1.out, ← Hq.out]; simp [go_sem])
  have Hq1 : Hid (blk v1 ≠ some q) := Lib.hid (fun e => by have := XW.out.has.lt e; have h2 : W.heap.size = q := Hq.out; omega)
  rw [Hq.out, HW1.out]
  refine ⟨_, rfl, hK _ _ (cls HM1.out) ?_⟩
  clear hK K
  refine mix1 rfl (fun K hK => ?_)
  go_simp
  refine (del_of W1 v1 h HX1.out.has q c.1 Hz1.out Hq1.out).mono ?_
  rintro e W2 ⟨v3, rfl, r3, b3, m3⟩
  obtain ⟨A3, c3, e3, _, i3⟩ := r3.slice
  obtain ⟨l3, Hl3⟩ : ∃ l3, Hid (delM h c.1 = l3) := ⟨_, Lib.hid rfl⟩
  rw [Hl3.out] at e3 r3 i3
  obtain ⟨n3, Hn3⟩ : ∃ n3, Hid (l3.length = n3) := ⟨_, Lib.hid rfl⟩
  rw [Hn3.out] at e3 i3
  subst e3
  have I3 := Lib.hid i3
  have R3 := Lib.hid r3
  have B3 := Lib.hid b3
  have M3 := Lib.hid m3
  have HM2 : Hid (Mdb W v1 W2) := Lib.hid (HM1.out.trans m3)
  clear r3 b3 m3 i3
  refine ⟨_, rfl, hK _ _ (cls HM2.out) ?_⟩
  clear hK K
  repeat (refine mix0 rfl (fun K hK => ?_); go_simp; refine hK _ ?_; clear hK K)
  have s0 := (HM2.out.cell (p := ⟨L, 0, none⟩) XW.out.lt XW.out.d1).trans XW.out.c0
  have s1 := (HM2.out.frozen (p := ⟨L, 0, none⟩) XW.out.lt XW.out.d1).trans XW.out.f0
  have s2 := (HM2.out.cell (p := ⟨p, 1, none⟩) HpW.out Hp1.out).trans (show W.cell? ⟨p, 1, none⟩ = some (.int .i64 c.2) by rw [← HW.out, ← Hp.out]; simp [go_sem])
  refine mix2 rfl (fun K hK => ?_); go_simp; refine hK _ _ ?_; clear hK K
  refine mixEnd ?_
  have HX3 := Lib.hid (XW.out.has' HM2.out R3.out (.inl B3.out))
  obtain ⟨W3, HW3⟩ : ∃ W3, Hid (W2.setCell ⟨L, 0, none⟩ (.slice A3 n3 c3) = W3) := ⟨_, Lib.hid rfl⟩
  have HM3 : Hid (Mod (fun g => g = L ∨ blk v1 = some g) w W3) := Lib.hid (by
    rw [← HW3.out]
    exact (Mod.of_below HBW.out).trans ((HM2.out.mono (fun _ _ h => .inr h)).setCell (.inl (.inl rfl)) _))
  rw [HW3.out] at HX3 ⊢
  have s3 : W3.cell? ⟨p, 1, none⟩ = some (.int .i64 c.2) := by rw [← HW3.out]; exact set_other (by have := HpL.out; simp <;> omega) s2
  clear s0 s1 s2 q0 q1
  by_cases h0 : c.2 = 0
  · have HE : Hid (giveM h c = l3) := Lib.hid (by rw [giveM, if_pos h0, Hl3.out])
    have hb0 : (c.2 == 0) = true := by simpa using h0
    go_wp2
    refine bodyPost_ret (results_none rfl _ _ _) rfl ⟨rfl, _, ?_, HM3.out, Nb.from HBW.out.size (.inl B3.out)⟩
    rw [HE.out]
    exact HX3.out
  · have hb0 : (c.2 == 0) = false := by simpa using h0
    have HE : Hid (giveM h c = insC l3 (atM l3 c.1) c) := Lib.hid (by rw [giveM, if_neg h0, Hl3.out])
    have HpL3 : Hid (p < W3.heap.size) := Lib.hid (lt_of_cell s3)
    have q0 : ∀ y : In (Abv W3), y.u.cell? ⟨L, 0, none⟩ = some (.slice A3 n3 c3) := fun y => (y.is.cell (p := ⟨L, 0, none⟩) HX3.out.lt).trans HX3.out.c0
    have z1 : W3.cell? ⟨p, 0, none⟩ = some (.int .i64 c.1) := by
      rw [← HW3.out]
      refine set_other (by have := HpL.out; simp <;> omega) ?_
      exact (HM2.out.cell (p := ⟨p, 0, none⟩) HpW.out Hp1.out).trans (by rw [← HW.out, ← Hp.out]; simp [go_sem])
    have q1 : ∀ y : In (Abv W3), y.u.cell? ⟨p, 0, none⟩ = some (.int .i64 c.1) := fun y => (y.is.cell (p := ⟨p, 0, none⟩) HpL3.out).trans z1
    have Hsg : Hid (W3.cell? ⟨p, 0, none⟩ = some (.int .i64 c.1) ∧ W3.cell? ⟨p, 1, none⟩ = some (.int .i64 c.2)) := Lib.hid ⟨z1, s3⟩
    clear z1
    go_wp2_with fail
    clear s3
    refine wp_region_mix (by kernel_rfl) (Cls (Abv W3)) [(0, 0), (1, 0), (2, 0), (3, 0), (4, 0), (5, 0), (6, 1), (7, 1), (8, 0)] (by kernel_rfl) (cls (Below.refl _ _).drew) ?_
    repeat (refine mix0 rfl (fun K hK => ?_); go_simp; refine hK _ ?_; clear hK K)
    refine mix1 rfl (fun K hK => ?_)
    go_simp
    refine (behind_any _ c.1).mono ?_
    rintro e w1 ⟨rfl, rfl⟩
    obtain ⟨q2, Hq2⟩ : ∃ q, Hid (W3.drew.heap.size = q) := ⟨_, Lib.hid rfl⟩
    obtain ⟨W4, HW4⟩ : ∃ W1, Hid (W3.drew.alloc (.cells #[.int .i64 c.1] 3) = W1) := ⟨_, Lib.hid rfl⟩
    have HB4 : Hid (Abv W3 W4) := Lib.hid (by rw [← HW4.out]; exact balloc (Below.refl _ _).drew _)
    have Hz4 : Hid (W4.cell? ⟨q2, 0, none⟩ = some (.int .i64 c.1)) := Lib.hid (by rw [← HW4.out, ← Hq2.out]; simp [go_sem])
    have HX4 := Lib.hid (HX3.out.below HB4.out)
    rw [Hq2.out, HW4.out]
    refine ⟨_, rfl, hK _ _ (cls HB4.out) ?_⟩
    clear hK K
    refine mix1 rfl (fun K hK => ?_)
    go_simp
    have HI : Hid (IsC W4 A3 n3 l3) := Lib.hid (by
      obtain ⟨A', c', e', _, i'⟩ := HX4.out.has.slice
      injection e' with e1 _ _
      rw [Hn3.out, ← e1] at i'
      exact i')
    refine (Index1 103 (behQ c.1) q2 (.int .i64 c.1) (fun _ _ => rfl) (fun u x hu => behind_run q2 c.1 u x hu) W4 Hz4.out A3 n3 c3 l3 HI.out).mono ?_
    obtain ⟨Z, HZ⟩ : ∃ x, Hid (idxM (behQ c.1) l3 = x) := ⟨_, Lib.hid rfl⟩
    rw [HZ.out]
    rintro e W5 ⟨rfl, h5⟩
    have HB5 : Hid (Abv W3 W5) := Lib.hid (bnext HB4.out h5)
    clear h5
    refine ⟨_, rfl, hK _ _ (cls HB5.out) ?_⟩
    clear hK K
    repeat (refine mix0 rfl (fun K hK => ?_); go_simp; refine hK _ ?_; clear hK K)
    refine mixEnd ?_
    obtain ⟨k, Hk⟩ : ∃ k, Hid (atM l3 c.1 = k) := ⟨_, Lib.hid rfl⟩
    have hZk : Z = (k : Int) ∨ (Z < 0 ∧ n3 = k) := by
      have h1 := HZ.out
      have h2 := Hk.out
      have h3 := Hn3.out
      unfold atM at h2
      rw [h1, h3] at h2
      split at h2
      · exact .inr ⟨by assumption, h2⟩
      · exact .inl (by omega)
    have hkn : k ≤ n3 := by rw [← Hk.out, ← Hn3.out]; exact atM_le _ _
    have HX5 := Lib.hid (HX3.out.below HB5.out)
    have t0 := HX5.out.c0
    have hn3 : n3 ≤ 9223372036854775807 := HI.out.small
    rw [Hk.out] at HE
    clear q0 q1
    rcases hZk with rfl | ⟨hZ0, rfl⟩
    all_goals
      go_wp2_with fail
      have Hp3 : Hid (blk (.slice A3 n3 c3) ≠ some p) := Lib.hid (by rw [B3.out]; exact Hp1.out)
      have HpW5 : Hid (p < W5.heap.size) := Lib.hid (Nat.lt_of_lt_of_le HpL3.out HB5.out.size)
      have z0 := (HB5.out.cell (p := ⟨p, 0, none⟩) HpL3.out).trans Hsg.out.1
      have z1 := (HB5.out.cell (p := ⟨p, 1, none⟩) HpL3.out).trans Hsg.out.2
      have q0 : ∀ y : In (Mdb W5 (.slice A3 n3 c3)), y.u.cell? ⟨L, 0, none⟩ = some (.slice A3 n3 c3) := fun y => (y.is.cell (p := ⟨L, 0, none⟩) HX5.out.lt HX5.out.d1).trans HX5.out.c0
      have q1 : ∀ y : In (Mdb W5 (.slice A3 n3 c3)), y.u.cell? ⟨p, 0, none⟩ = some (.int .i64 c.1) := fun y => (y.is.cell (p := ⟨p, 0, none⟩) HpW5.out Hp3.out).trans z0
      have q2' : ∀ y : In (Mdb W5 (.slice A3 n3 c3)), y.u.cell? ⟨p, 1, none⟩ = some (.int .i64 c.2) := fun y => (y.is.cell (p := ⟨p, 1, none⟩) HpW5.out Hp3.out).trans z1
      clear z0 z1 t0
      refine wp_region_mix (by kernel_rfl) (Cls (Mdb W5 (.slice A3 n3 c3))) [(0, 0), (1, 0), (2, 0), (3, 0), (4, 0), (5, 0), (6, 0), (7, 1), (8, 1), (9, 0), (10, 0), (11, 2)] (by kernel_rfl) (cls (Mod.refl _ W5).drew) ?_
      repeat (refine mix0 rfl (fun K hK => ?_); go_simp; refine hK _ ?_; clear hK K)
      refine mix1 rfl (fun K hK => ?_)
      go_simp
      obtain ⟨W6, HW6⟩ : ∃ W6, Hid ((W5.alloc (.cells #[.int .i64 c.1, .int .i64 c.2] 61)).drew = W6) := ⟨_, Lib.hid rfl⟩
      obtain ⟨q6, Hq6⟩ : ∃ q, Hid (W5.heap.size = q) := ⟨_, Lib.hid rfl⟩
      have HM6 : Hid (Mdb W5 (.slice A3 n3 c3) W6) := Lib.hid (by rw [← HW6.out]; exact ((Mod.refl _ W5).alloc _).drew)
      have HB6 : Hid (Below W5.heap.size W5 W6) := Lib.hid (by rw [← HW6.out]; exact (balloc (Below.refl _ _) _).drew)
      have HX6 := Lib.hid (HX5.out.below HB6.out)
      have Hs6 : Hid (Sgl W6 q6 c) := Lib.hid (by
        rw [← HW6.out, ← Hq6.out]
        have h6 := Sgl.new W5 c hc
        exact ⟨hc, h6.node, h6.mode, h6.shape, h6.head, h6.tail⟩)
      have Hq3 : Hid (blk (.slice A3 n3 c3) ≠ some q6) := Lib.hid (fun e => by have := HX5.out.has.lt e; have := Hq6.out; omega)
      rw [Hq6.out, HW6.out]
      refine hK _ _ (cls HM6.out) ?_
      clear hK K
      refine mix1 rfl (fun K hK => ?_)
      go_simp
      refine (Insert_any W6 (.slice A3 n3 c3) l3 HX6.out.has _ (by rw [Hn3.out]; first | exact hkn | exact Nat.le_refl _) q6 1 c Hs6.out Hq3.out (by rw [← Hl3.out]; have := delM_length h c.1; omega)).mono ?_
      rintro e W7 ⟨v7, rfl, r7, a7⟩
      obtain ⟨A7, c7, e7, _, _⟩ := r7.slice
      obtain ⟨l7, Hl7⟩ : ∃ l7, Hid (giveM h c = l7) := ⟨_, Lib.hid rfl⟩
      rw [← HE.out, Hl7.out] at r7 e7
      obtain ⟨n7, Hn7⟩ : ∃ n7, Hid (l7.length = n7) := ⟨_, Lib.hid rfl⟩
      rw [Hn7.out] at e7
      subst e7
      have R7 := Lib.hid r7
      have A7' := Lib.hid a7
      have HM7 : Hid (Mdb W5 (.slice A3 n3 c3) W7) := Lib.hid (HM6.out.trans a7.mod)
      clear r7 a7
      refine ⟨_, rfl, hK _ _ (cls HM7.out) ?_⟩
      clear hK K
      repeat (refine mix0 rfl (fun K hK => ?_); go_simp; refine hK _ ?_; clear hK K)
      have s0 := (HM7.out.cell (p := ⟨L, 0, none⟩) HX5.out.lt HX5.out.d1).trans HX5.out.c0
      have s1 := (HM7.out.frozen (p := ⟨L, 0, none⟩) HX5.out.lt HX5.out.d1).trans HX5.out.f0
      refine mix2 rfl (fun K hK => ?_); go_simp; refine hK _ _ ?_; clear hK K
      refine mixEnd ?_
      have HX8 := Lib.hid (HX5.out.has' HM7.out R7.out (Nb.from HB6.out.size A7'.out.blk))
      have HW5 : Hid (W3.heap.size ≤ W5.heap.size) := Lib.hid HB5.out.size
      have HW3' : Hid (w.heap.size ≤ W3.heap.size) := Lib.hid HM3.out.size
      have HNb : Hid (Nb w v1 (.slice A7 n7 c7)) := Lib.hid (Nb.trans (w2 := W6) (.inl B3.out : Nb w v1 (.slice A3 n3 c3)) (Nat.le_trans HW3'.out (Nat.le_trans HW5.out HB6.out.size)) A7'.out.blk)
      have HM8 : Hid (Mod (fun g => g = L ∨ blk v1 = some g) w (W7.setCell ⟨L, 0, none⟩ (.slice A7 n7 c7))) := Lib.hid (HM3.out.trans ((Mod.of_below HB5.out).trans ((HM7.out.mono (fun g _ hg => .inr (B3.out ▸ hg))).setCell (.inl (.inl rfl)) _)))
      go_wp2
      refine bodyPost_end (results_none rfl _ _ _) rfl ⟨rfl, _, ?_, HM8.out, HNb.out⟩
      rw [Hl7.out]
      exact HX8.out
end Go.Proofs.Ythpmodohfjjjcaa
