
/- What a node asks for, done to a line: drop, leave, want. -/
import Derived.Test.YthpmodohfjjjcaaAs9
namespace Go.Proofs.Ythpmodohfjjjcaa
open Go.RowKit

/-- What is told, and what has turned. -/
structure Done (w w' : World) (L : Nat) (v1 v2 v1' v2' T : Value) (h ws told : List Cl) : Prop where
  line : Ln w' L v1' v2' h ws
  told : RC w' T told
  apart : ∀ g, blk T = some g → w.heap.size ≤ g ∧ g ≠ L ∧ blk v1' ≠ some g ∧ blk v2' ≠ some g
  mod : Mod (fun g => g = L ∨ blk v1 = some g ∨ blk v2 = some g) w w'
  n1 : Nb w v1 v1'
  n2 : Nb w v2 v2'
def dropM (h : List Cl) (z m : Int) : List Cl := if modeM h z ≠ m ∧ covB (modeM h z) m = true then giveM h (z, m) else h
def wantM (h ws : List Cl) (z m : Int) : List Cl × List Cl :=
  if somB m = false then (ws, []) else if covB (modeM h z) m = true then (ws, [(z, modeM h z)]) else if idxM (ofQ z) ws = 0 then (ws.set 0 (z, m), []) else (delM ws z ++ [(z, m)], [])
theorem cov_mode {a b : Int} (h : covB a b = true) : modeB a = true ∧ modeB b = true ∧ b ≤ a := by
  unfold covB at h
  simp only [Bool.and_eq_true, decide_eq_true_eq] at h
  exact ⟨h.1.1, h.1.2, h.2⟩
theorem wf_small {z : Int} (h0 : 0 ≤ z) (h1 : z < 8) : (Lit.int .i64 z).wf = true := by
  have h2 : IntKind.i64.min = -9223372036854775808 := by decide
  simp [Lit.wf, h2]
  omega
theorem mode_wf {m : Int} (h : modeB m = true) : (Lit.int .i64 m).wf = true := by
  rcases mode_cases m with rfl | rfl | rfl | h2
  · rfl
  · rfl
  · rfl
  · rw [h] at h2; cases h2
theorem som_cases {m : Int} (h : somB m = true) : m = 1 ∨ m = 2 := by
  have := cov_mode h
  rcases mode_cases m with rfl | rfl | rfl | h2
  · omega
  · exact .inl rfl
  · exact .inr rfl
  · rw [this.1] at h2; cases h2
theorem drew_same (w : World) : Below w.heap.size w w.drew := (Below.refl _ _).drew
set_option maxRecDepth 100000 in
set_option maxHeartbeats 1000000 in
theorem drop_any (w : World) (L : Nat) (v1 v2 : Value) (h ws : List Cl) (x : Ln w L v1 v2 h ws) (z m : Int) (hz0 : 0 ≤ z) (hz1 : z < 8) (hn : h.length ≤ 800) :
    Calls Try.prog 77 #[.pointer (some ⟨L, 0, none⟩), .int .i64 z, .int .i64 m] w fun e w' => ∃ T v1' v2', e = .returned T ∧ Done w w' L v1 v2 v1' v2' T (dropM h z m) ws [] := by
  obtain ⟨A, c, e1, hc, hI⟩ := x.has.slice
  subst e1
  have X := Lib.hid x
  have HI := Lib.hid hI
  have hl := x.lt
  have t0 := x.c0
  obtain ⟨n, Hn⟩ : ∃ n, Hid (h.length = n) := ⟨_, Lib.hid rfl⟩
  rw [Hn.out] at X HI t0 ⊢
  obtain ⟨M, HM⟩ : ∃ x, Hid (modeM h z = x) := ⟨_, Lib.hid rfl⟩
  obtain ⟨C, HC⟩ : ∃ x, Hid (covB M m = x) := ⟨_, Lib.hid rfl⟩
  have Hend : ∀ w', Below w.heap.size w w' → Done w w' L (.slice A n c) v2 (.slice A n c) v2 (.slice none 0 0) h ws [] := fun w' hb =>
    ⟨X.out.below hb, RC.nil _, fun g hg => (by cases hg), Mod.of_below hb, .inl rfl, .inl rfl⟩
  have HE := Lib.hid Hend
  clear x hI hc Hend
  by_cases he : M = m
  · have Hd : Hid (dropM h z m = h) := Lib.hid (by rw [dropM, if_neg (by rw [HM.out]; exact fun q => q.1 he)])
    rw [Hd.out]
    have hb := bne_no he
    clear he
    go_enter Try.func77, Try.ntmps77
    go_wp2_with fail
    refine (modeIn_any w A n c h HI.out z).mono ?_
    rw [HM.out]
    rintro e w1 ⟨rfl, hb1⟩
    have HB1 := Lib.hid hb1
    clear hb1
    go_wp2
    go_ret
    exact ⟨_, _, _, rfl, HE.out _ HB1.out⟩
  · have hb := bne_yes he
    cases C
    · have Hd : Hid (dropM h z m = h) := Lib.hid (by rw [dropM, if_neg (by rw [HM.out, HC.out]; exact fun q => by cases q.2)])
      rw [Hd.out]
      clear he
      go_enter Try.func77, Try.ntmps77
      go_wp2_with fail
      refine (modeIn_any w A n c h HI.out z).mono ?_
      rw [HM.out]
      rintro e w1 ⟨rfl, hb1⟩
      have HB1 := Lib.hid hb1
      clear hb1
      go_wp2_with fail
      refine (Covers_any _ M m).mono ?_
      rw [HC.out]
      rintro e w2 ⟨rfl, hb1⟩
      have HB2 := Lib.hid (bnext HB1.out hb1)
      clear hb1
      go_wp2
      go_ret
      exact ⟨_, _, _, rfl, HE.out _ HB2.out⟩
    · have Hd : Hid (dropM h z m = giveM h (z, m)) := Lib.hid (by rw [dropM, if_pos (by rw [HM.out, HC.out]; exact ⟨he, rfl⟩)])
      have Hwf : Hid ((Lit.int .i64 z).wf = true ∧ (Lit.int .i64 m).wf = true) := Lib.hid ⟨wf_small hz0 hz1, mode_wf (cov_mode HC.out).2.1⟩
      rw [Hd.out]
      clear he
      go_enter Try.func77, Try.ntmps77
      go_wp2_with fail
      refine (modeIn_any w A n c h HI.out z).mono ?_
      rw [HM.out]
      rintro e w1 ⟨rfl, hb1⟩
      have HB1 := Lib.hid hb1
      clear hb1
      go_wp2_with fail
      refine (Covers_any _ M m).mono ?_
      rw [HC.out]
      rintro e w2 ⟨rfl, hb1⟩
      have HB2 := Lib.hid (bnext HB1.out hb1)
      clear hb1
      go_wp2_with fail
      refine (give_any w2 L (.slice A n c) v2 h ws (X.out.below HB2.out) (z, m) Hwf.out (by have := Hn.out; omega)).mono ?_
      rintro e w3 ⟨rfl, v1', x3, m3, n3⟩
      have X3 := Lib.hid x3
      have M3 := Lib.hid m3
      have N3 := Lib.hid n3
      clear x3 m3 n3
      go_wp2
      go_ret
      exact ⟨_, _, _, rfl, X3.out, RC.nil _, fun g hg => (by cases hg), (Mod.of_below HB2.out).trans (M3.out.mono fun g _ hg => hg.imp id .inl), Nb.from HB2.out.size N3.out, .inl rfl⟩
end Go.Proofs.Ythpmodohfjjjcaa
