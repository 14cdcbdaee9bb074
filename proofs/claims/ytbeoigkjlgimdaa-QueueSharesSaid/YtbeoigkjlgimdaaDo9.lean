/- What a node asks for, done to a line: drop, leave, want. -/
import Derived.Test.YtbeoigkjlgimdaaAs9
namespace Go.Proofs.Ytbeoigkjlgimdaa
open Go.RowKit

/-- What is told, and what has turned. -/
structure Done (w w' : World) (L : Nat) (v1 v2 v1' v2' T : Value) (h ws told : List Cl) : Prop where
  line : Ln w' L v1' v2' h ws
  told : RC w' T told
  apart : ∀ g, blk T = some g → w.heap.size ≤ g ∧ g ≠ L ∧ blk v1' ≠ some g ∧ blk v2' ≠ some g
  mod : Mod (fun g => g = L ∨ blk v1 = some g ∨ blk v2 = some g) w w'
  n1 : Nb w v1 v1'
  n2 : Nb w v2 v2'
def dropM (h : List Cl) (z m : Int) : List Cl := if modeM h z ≠ m ∧ covB (modeM h z) m = true then giveM h (z, m) else h
def wantM (h ws : List Cl) (z m : Int) : List Cl × List Cl :=
  if somB m = false then (ws, []) else if covB (modeM h z) m = true then (ws, [(z, modeM h z)]) else if idxM (ofQ z) ws = 0 then (ws.set 0 (z, m), []) else (delM ws z ++ [(z, m)], [])
theorem cov_mode {a b : Int} (h : covB a b = true) : modeB a = true ∧ modeB b = true ∧ b ≤ a := by
  unfold covB at h
  simp only [Bool.and_eq_true, decide_eq_true_eq] at h
  exact ⟨h.1.1, h.1.2, h.2⟩
theorem wf_small {z : Int} (h0 : 0 ≤ z) (h1 : z < 8) : (Lit.int .i64 z).wf = true := by
  have h2 : IntKind.i64.min = -9223372036854775808 := by decide
  simp [Lit.wf, h2]
  omega
theorem mode_wf {m : Int} (h : modeB m = true) : (Lit.int .i64 m).wf = true := by
  rcases mode_cases m with rfl | rfl | rfl | h2
  · rfl
  · rfl
  · rfl
  · rw [h] at h2; cases h2
theorem som_cases {m : Int} (h : somB m = true) : m = 1 ∨ m = 2 := by
  have := cov_mode h
  rcases mode_cases m with rfl | rfl | rfl | h2
  · omega
  · exact .inl rfl
  · exact .inr rfl
  · rw [this.1] at h2; cases h2
theorem drew_same (w : World) : Below w.heap.size w w.drew := (Below.refl _ _).drew
set_option maxHeartbeats 1000000 in
theorem drop_any (w : World) (L : Nat) (v1 v2 : Value) (h ws : List Cl) (x : Ln w L v1 v2 h ws) (z m : Int) (hz0 : 0 ≤ z) (hz1 : z < 8) (hn : h.length ≤ 800) :
    Calls Try.prog 17 #[.pointer (some ⟨L, 0, none⟩), .int .i64 z, .int .i64 m] w fun e w' => ∃ T v1' v2', e = .returned T ∧ Done w w' L v1 v2 v1' v2' T (dropM h z m) ws [] := by
  obtain ⟨A, c, e1, hc, hI⟩ := x.has.slice
  subst e1
  have X := Lib.hid x
  have HI := Lib.hid hI
  have hl := x.lt
  have t0 := x.c0
  obtain ⟨n, Hn⟩ : ∃ n, Hid (h.length = n) := ⟨_, Lib.hid rfl⟩
  rw [Hn.out] at X HI t0 ⊢
  obtain ⟨M, HM⟩ : ∃ x, Hid (modeM h z = x) := ⟨_, Lib.hid rfl⟩
  obtain ⟨C, HC⟩ : ∃ x, Hid (covB M m = x) := ⟨_, Lib.hid rfl⟩
  have Hend : ∀ w', Below w.heap.size w w' → Done w w' L (.slice A n c) v2 (.slice A n c) v2 (.slice none 0 0) h ws [] := fun w' hb =>
    ⟨X.out.below hb, RC.nil _, fun g hg => (by cases hg), Mod.of_below hb, .inl rfl, .inl rfl⟩
  have HE := Lib.hid Hend
  clear x hI hc Hend
  by_cases he : M = m
  · have Hd : Hid (dropM h z m = h) := Lib.hid (by rw [dropM, if_neg (by rw [HM.out]; exact fun q => q.1 he)])
    rw [Hd.out]
    have hb := bne_no he
    clear he
    go_enter Try.func17, Try.ntmps17
    go_wp2_with fail
    refine (modeIn_any w A n c h HI.out z).mono ?_
    rw [HM.out]
    rintro e w1 ⟨rfl, hb1⟩
    have HB1 := Lib.hid hb1
    clear hb1
    go_wp2
    go_ret
    exact ⟨_, _, _, rfl, HE.out _ HB1.out⟩
  · have hb := bne_yes he
    cases C
    · have Hd : Hid (dropM h z m = h) := Lib.hid (by rw [dropM, if_neg (by rw [HM.out, HC.out]; exact fun q => by cases q.2)])
      rw [Hd.out]
      clear he
      go_enter Try.func17, Try.ntmps17
      go_wp2_with fail
      refine (modeIn_any w A n c h HI.out z).mono ?_
      rw [HM.out]
      rintro e w1 ⟨rfl, hb1⟩
      have HB1 := Lib.hid hb1
      clear hb1
      go_wp2_with fail
      refine (Covers_any _ M m).mono ?_
      rw [HC.out]
      rintro e w2 ⟨rfl, hb1⟩
      have HB2 := Lib.hid (bnext HB1.out hb1)
      clear hb1
      go_wp2
      go_ret
      exact ⟨_, _, _, rfl, HE.out _ HB2.out⟩
    · have Hd : Hid (dropM h z m = giveM h (z, m)) := Lib.hid (by rw [dropM, if_pos (by rw [HM.out, HC.out]; exact ⟨he, rfl⟩)])
      have Hwf : Hid ((Lit.int .i64 z).wf = true ∧ (Lit.int .i64 m).wf = true) := Lib.hid ⟨wf_small hz0 hz1, mode_wf (cov_mode HC.out).2.1⟩
      rw [Hd.out]
      clear he
      go_enter Try.func17, Try.ntmps17
      go_wp2_with fail
      refine (modeIn_any w A n c h HI.out z).mono ?_
      rw [HM.out]
      rintro e w1 ⟨rfl, hb1⟩
      have HB1 := Lib.hid hb1
      clear hb1
      go_wp2_with fail
      refine (Covers_any _ M m).mono ?_
      rw [HC.out]
      rintro e w2 ⟨rfl, hb1⟩
      have HB2 := Lib.hid (bnext HB1.out hb1)
      clear hb1
      go_wp2_with fail
      refine (give_any w2 L (.slice A n c) v2 h ws (X.out.below HB2.out) (z, m) Hwf.out (by have := Hn.out; omega)).mono ?_
      rintro e w3 ⟨rfl, v1', x3, m3, n3⟩
      have X3 := Lib.hid x3
      have M3 := Lib.hid m3
      have N3 := Lib.hid n3
      clear x3 m3 n3
      go_wp2
      go_ret
      exact ⟨_, _, _, rfl, X3.out, RC.nil _, fun g hg => (by cases hg), (Mod.of_below HB2.out).trans (M3.out.mono fun g _ hg => hg.imp id .inl), Nb.from HB2.out.size N3.out, .inl rfl⟩
set_option maxHeartbeats 1000000 in
theorem leave_any (w : World) (L : Nat) (v1 v2 : Value) (h ws : List Cl) (x : Ln w L v1 v2 h ws) (z m : Int) :
    Calls Try.prog 18 #[.pointer (some ⟨L, 0, none⟩), .int .i64 z, .int .i64 m] w fun e w' => ∃ T v1' v2', e = .returned T ∧ Done w w' L v1 v2 v1' v2' T (delM h z) (delM ws z) [] := by
  have X := Lib.hid x
  have q0 : ∀ y : In (Mdb w v1), y.u.cell? ⟨L, 0, none⟩ = some v1 := fun y => (y.is.cell (p := ⟨L, 0, none⟩) X.out.lt X.out.d1).trans X.out.c0
  clear x
  go_enter Try.func18, Try.ntmps18
  go_wp2_with fail
  refine wp_region_mix (by kernel_rfl) (Cls (Mdb w v1)) [(0, 0), (1, 0), (2, 0), (3, 0), (4, 0), (5, 0), (6, 1), (7, 1), (8, 0), (9, 0), (10, 2)] (by kernel_rfl) (cls (Mod.refl _ w).drew) ?_
  repeat (refine mix0 rfl (fun K hK => ?_); go_simp; refine hK _ ?_; clear hK K)
  refine mix1 rfl (fun K hK => ?_)
  go_simp
  refine (of_any _ z).mono ?_
  rintro e w1 ⟨rfl, rfl⟩
  obtain ⟨q, Hq⟩ : ∃ q, Hid (w.drew.heap.size = q) := ⟨_, Lib.hid rfl⟩
  obtain ⟨W1, HW1⟩ : ∃ W1, Hid (w.drew.alloc (.cells #[.int .i64 z] 3) = W1) := ⟨_, Lib.hid rfl⟩
  have HM1 : Hid (Mdb w v1 W1) := Lib.hid (by rw [← HW1.out]; exact (Mod.refl _ w).drew.alloc _)
  have HX1 : Hid (Ln W1 L v1 v2 h ws) := Lib.hid (by rw [← HW1.out]; exact X.out.below (balloc (Below.refl _ _).drew _))
  have Hz1 : Hid (W1.cell? ⟨q, 0, none⟩ = some (.int .i64 z)) := Lib.hid (by rw [← HW1.out, ← Hq.out]; simp [go_sem])
  have Hq1 : Hid (blk v1 ≠ some q) := Lib.hid (fun e => by have := X.out.has.lt e; have h2 : w.heap.size = q := Hq.out; omega)
  rw [Hq.out, HW1.out]
  refine ⟨_, rfl, hK _ _ (cls HM1.out) ?_⟩
  clear hK K
  refine mix1 rfl (fun K hK => ?_)
  go_simp
  refine (del_of W1 v1 h HX1.out.has q z Hz1.out Hq1.out).mono ?_
  rintro e W2 ⟨v3, rfl, r3, b3, m3⟩
  obtain ⟨A3, c3, e3, _, _⟩ := r3.slice
  obtain ⟨l3, Hl3⟩ : ∃ l3, Hid (delM h z = l3) := ⟨_, Lib.hid rfl⟩
  rw [Hl3.out] at e3 r3
  obtain ⟨n3, Hn3⟩ : ∃ n3, Hid (l3.length = n3) := ⟨_, Lib.hid rfl⟩
  rw [Hn3.out] at e3
  subst e3
  have R3 := Lib.hid r3
  have B3 := Lib.hid b3
  have HM2 : Hid (Mdb w v1 W2) := Lib.hid (HM1.out.trans m3)
  clear r3 b3 m3
  refine ⟨_, rfl, hK _ _ (cls HM2.out) ?_⟩
  clear hK K
  repeat (refine mix0 rfl (fun K hK => ?_); go_simp; refine hK _ ?_; clear hK K)
  have s0 := (HM2.out.cell (p := ⟨L, 0, none⟩) X.out.lt X.out.d1).trans X.out.c0
  have s1 := (HM2.out.frozen (p := ⟨L, 0, none⟩) X.out.lt X.out.d1).trans X.out.f0
  refine mix2 rfl (fun K hK => ?_); go_simp; refine hK _ _ ?_; clear hK K
  refine mixEnd ?_
  have HX3 := Lib.hid (X.out.has' HM2.out R3.out (.inl B3.out))
  obtain ⟨W3, HW3⟩ : ∃ W3, Hid (W2.setCell ⟨L, 0, none⟩ (.slice A3 n3 c3) = W3) := ⟨_, Lib.hid rfl⟩
  have HM3 : Hid (Mod (fun g => g = L ∨ blk v1 = some g) w W3) := Lib.hid (by
    rw [← HW3.out]
    exact (HM2.out.mono (fun _ _ h => .inr h)).setCell (.inl (.inl rfl)) _)
  rw [HW3.out] at HX3 ⊢
  clear s0 s1 q0
  have q0 : ∀ y : In (Mdb W3 v2), y.u.cell? ⟨L, 1, none⟩ = some v2 := fun y => (y.is.cell (p := ⟨L, 1, none⟩) HX3.out.lt HX3.out.d2).trans HX3.out.c1
  go_wp2_with fail
  refine wp_region_mix (by kernel_rfl) (Cls (Mdb W3 v2)) [(0, 0), (1, 0), (2, 0), (3, 0), (4, 0), (5, 0), (6, 1), (7, 1), (8, 0), (9, 0), (10, 2)] (by kernel_rfl) (cls (Mod.refl _ W3).drew) ?_
  repeat (refine mix0 rfl (fun K hK => ?_); go_simp; refine hK _ ?_; clear hK K)
  refine mix1 rfl (fun K hK => ?_)
  go_simp
  refine (of_any _ z).mono ?_
  rintro e w1 ⟨rfl, rfl⟩
  obtain ⟨q5, Hq5⟩ : ∃ q, Hid (W3.drew.heap.size = q) := ⟨_, Lib.hid rfl⟩
  obtain ⟨W5, HW5⟩ : ∃ W1, Hid (W3.drew.alloc (.cells #[.int .i64 z] 3) = W1) := ⟨_, Lib.hid rfl⟩
  have HM5 : Hid (Mdb W3 v2 W5) := Lib.hid (by rw [← HW5.out]; exact (Mod.refl _ W3).drew.alloc _)
  have HX5 : Hid (Ln W5 L (.slice A3 n3 c3) v2 l3 ws) := Lib.hid (by rw [← HW5.out]; exact HX3.out.below (balloc (Below.refl _ _).drew _))
  have Hz5 : Hid (W5.cell? ⟨q5, 0, none⟩ = some (.int .i64 z)) := Lib.hid (by rw [← HW5.out, ← Hq5.out]; simp [go_sem])
  have Hq51 : Hid (blk v2 ≠ some q5) := Lib.hid (fun e => by have := HX3.out.waits.lt e; have h2 : W3.heap.size = q5 := Hq5.out; omega)
  rw [Hq5.out, HW5.out]
  refine ⟨_, rfl, hK _ _ (cls HM5.out) ?_⟩
  clear hK K
  refine mix1 rfl (fun K hK => ?_)
  go_simp
  refine (del_of W5 v2 ws HX5.out.waits q5 z Hz5.out Hq51.out).mono ?_
  rintro e W6 ⟨v6, rfl, r6, b6, m6⟩
  obtain ⟨A6, c6, e6, _, _⟩ := r6.slice
  obtain ⟨l6, Hl6⟩ : ∃ l3, Hid (delM ws z = l3) := ⟨_, Lib.hid rfl⟩
  rw [Hl6.out] at e6 r6
  obtain ⟨n6, Hn6⟩ : ∃ n3, Hid (l6.length = n3) := ⟨_, Lib.hid rfl⟩
  rw [Hn6.out] at e6
  subst e6
  have R6 := Lib.hid r6
  have B6 := Lib.hid b6
  have HM6 : Hid (Mdb W3 v2 W6) := Lib.hid (HM5.out.trans m6)
  clear r6 b6 m6
  refine ⟨_, rfl, hK _ _ (cls HM6.out) ?_⟩
  clear hK K
  repeat (refine mix0 rfl (fun K hK => ?_); go_simp; refine hK _ ?_; clear hK K)
  have s0 := (HM6.out.cell (p := ⟨L, 1, none⟩) HX3.out.lt HX3.out.d2).trans HX3.out.c1
  have s1 := (HM6.out.frozen (p := ⟨L, 1, none⟩) HX3.out.lt HX3.out.d2).trans HX3.out.f1
  refine mix2 rfl (fun K hK => ?_); go_simp; refine hK _ _ ?_; clear hK K
  refine mixEnd ?_
  have HX7 := Lib.hid (HX3.out.waits' HM6.out R6.out (.inl B6.out))
  have HM7 : Hid (Mod (fun g => g = L ∨ blk v1 = some g ∨ blk v2 = some g) w (W6.setCell ⟨L, 1, none⟩ (.slice A6 n6 c6))) := Lib.hid
    ((HM3.out.mono (fun g _ hg => hg.imp id .inl)).trans ((HM6.out.mono (fun g _ hg => .inr (.inr hg))).setCell (.inl (.inl rfl)) _))
  go_wp2
  go_ret
  refine ⟨.slice none 0 0, .slice A3 n3 c3, .slice A6 n6 c6, rfl, ?_⟩
  rw [Hl3.out, Hl6.out]
  exact ⟨HX7.out, RC.nil _, fun g hg => (by cases hg), HM7.out, .inl B3.out, .inl B6.out⟩
end Go.Proofs.Ytbeoigkjlgimdaa
