/- The chapter's examples. -/
import Derived.Test.YthpmodohfjjjcaaTh10
import Derived.Test.YthpmodohfjjjcaaHa10
namespace Go.Proofs.Ythpmodohfjjjcaa
open Go.RowKit

/-- What is told lies so in six cells. -/
structure TdAt (w : World) (g o : Nat) (z : Int) (n : Nt) : Prop where
  c0 : w.cell? ⟨g, o, none⟩ = some (.int .i64 z)
  c1 : w.cell? ⟨g, o + 1, none⟩ = some (.int .i64 n.kind)
  c2 : w.cell? ⟨g, o + 1 + 1, none⟩ = some (.int .i64 n.epoch)
  c3 : w.cell? ⟨g, o + 1 + 2, none⟩ = some (.int .i64 n.res)
  c4 : w.cell? ⟨g, o + 1 + 3, none⟩ = some (.int .i64 n.mode)
  c5 : w.cell? ⟨g, o + 1 + 4, none⟩ = some (.int .i64 n.seq)
theorem TdAt.later {S : Nat → Prop} {w w' : World} {g o : Nat} {z : Int} {n : Nt} (x : TdAt w g o z n) (m : Mod S w w') (hs : ¬ S g) : TdAt w' g o z n :=
  have h := lt_of_cell x.c0
  ⟨(m.cell (p := ⟨g, o, none⟩) h hs).trans x.c0, (m.cell (p := ⟨g, o + 1, none⟩) h hs).trans x.c1, (m.cell (p := ⟨g, o + 1 + 1, none⟩) h hs).trans x.c2, (m.cell (p := ⟨g, o + 1 + 2, none⟩) h hs).trans x.c3, (m.cell (p := ⟨g, o + 1 + 3, none⟩) h hs).trans x.c4, (m.cell (p := ⟨g, o + 1 + 4, none⟩) h hs).trans x.c5⟩
theorem TdAt.below {w w' : World} {g o : Nat} {z : Int} {n : Nt} (x : TdAt w g o z n) (m : Below w.heap.size w w') : TdAt w' g o z n := x.later (Mod.of_below (S := fun _ => False) m) id
theorem td_at {w : World} {A : Option Addr} {m : Nat} {l : List Td} (h : IsG w 6 tdE A m l) {k : Nat} {z : Int} {n : Nt} (hk : l[k]? = some (z, n)) : ∃ g off, A = some ⟨g, off, none⟩ ∧ g < w.heap.size ∧ TdAt w g (off + k * 6) z n := by
  have hl := (List.getElem?_eq_some_iff.1 hk).1
  obtain ⟨g, off, e, hg, hc⟩ := h.cells (by have := h.length; omega)
  refine ⟨g, off, e, hg, ⟨?_, ?_, ?_, ?_, ?_, ?_⟩⟩
  · have := hc k (z, n) 0 _ hk rfl; exact this
  · have := hc k (z, n) 1 _ hk rfl; exact this
  · have := hc k (z, n) 2 _ hk rfl; exact this
  · have := hc k (z, n) 3 _ hk rfl; exact this
  · have := hc k (z, n) 4 _ hk rfl; exact this
  · have := hc k (z, n) 5 _ hk rfl; exact this
theorem td_first {w : World} {T : Value} {z : Int} {n : Nt} (h : RT w T [(z, n)]) : ∃ g off c, T = .slice (some ⟨g, off, none⟩) 1 c ∧ TdAt w g off z n := by
  obtain ⟨A, c, rfl⟩ := h.shape
  obtain ⟨i, _, _⟩ := h.is tdEnc
  obtain ⟨g, off, rfl, _, x⟩ := td_at i (k := 0) rfl
  rw [Nat.zero_mul, Nat.add_zero] at x
  exact ⟨g, off, c, rfl, x⟩
set_option maxRecDepth 100000 in
theorem no_tb (w : World) (ep sz : Int) (ty : TypeId) : ∀ g, ¬ Tb (w.alloc (.cells (taC ep sz) ty)) w.heap.size g := by
  rintro g ⟨o, A, n, c, e, h0, _⟩
  rw [World.cell?_alloc_mark] at e
  rcases Nat.lt_or_ge o 2 with h1 | h1
  · rcases (show o = 0 ∨ o = 1 by omega) with rfl | rfl
    · rw [show (taC ep sz)[0]? = some (.int .i64 ep) from rfl] at e
      cases e
    · rw [show (taC ep sz)[1]? = some (.int .i64 sz) from rfl] at e
      cases e
  · rcases Nat.lt_or_ge o 34 with h2 | h2
    · rw [taC_q ep sz h1 h2] at e
      injection e with e; injection e with e1 e2; omega
    · rcases Nat.lt_or_ge o 162 with h3 | h3
      · rw [taC_l ep sz h2 h3] at e; cases e
      · rw [taC_eq, Array.getElem?_eq_none (by simp; omega)] at e; cases e
set_option maxRecDepth 100000 in
theorem New_clean (w : World) (ep z : Int) :
    Calls Try.prog 13 #[.int .i64 ep, .int .i64 z] w fun e w' => ∃ b, e = .returned (.pointer (some ⟨b, 0, none⟩)) ∧ IsT w' b (Ta.new ep (keptM z)) ∧ Tlt w' b ∧ Below w.heap.size w w' ∧ w.heap.size ≤ b ∧ ∀ g, ¬ Tb w' b g := by
  obtain ⟨k, Hk⟩ : ∃ k, Hid (keptM z = k) := ⟨_, Lib.hid rfl⟩
  have Hs : Hid (k ≤ 16) := Lib.hid (by rw [← Hk.out]; unfold keptM; omega)
  rw [Hk.out]
  go_enter Try.func13, Try.ntmps13
  go_wp2_with fail
  refine (kept_any _ _).mono ?_
  rw [Hk.out]
  rintro e w1 ⟨rfl, rfl⟩
  go_wp2
  go_ret
  exact ⟨_, rfl, (isT_new w ep k 85 Hs.out).1, (isT_new w ep k 85 Hs.out).2, balloc (Below.refl _ _) _, Nat.le_refl _, no_tb w ep k 85⟩
/-! ### what the examples come to -/
def awH1 : Ho := wantH (Ho.new 1 2) 0 2
def awH2 : Ho := hearH awH1 ⟨3, 1, 0, 2, 1⟩
def awH3 : Ho := hearH awH2 ⟨4, 1, 0, 1, 1⟩
def awT1 : Ta := tHa (Ta.new 1 2) 3 ⟨1, 1, 0, 2, 1⟩
def awT2 : Ta := tHa awT1 4 ⟨1, 1, 0, 1, 1⟩
theorem aw_1 : wantOk (Ho.new 1 2) 0 2 = true := by rfl
theorem aw_2 : wantN (Ho.new 1 2) 0 2 = ⟨1, 1, 0, 2, 1⟩ := by rfl
theorem aw_3 : tHt (Ta.new 1 2) 3 ⟨1, 1, 0, 2, 1⟩ = [(3, ⟨3, 1, 0, 2, 1⟩)] := by rfl
theorem aw_4 : tHt awT1 4 ⟨1, 1, 0, 1, 1⟩ = [(3, ⟨4, 1, 0, 1, 1⟩)] := by rfl
theorem aw_5 : hearT awH2 ⟨4, 1, 0, 1, 1⟩ = [] := by rfl
theorem aw_6 : calM (awH3.at 0) = 1 ∧ stB (awH3.at 0).has (awH3.at 0).keeps = true ∧ (awH3.at 0).has = 2 := ⟨rfl, rfl, rfl⟩
theorem aw_7 : (awH1.lk 0).count = 1 ∧ (awH2.lk 0).count = 1 ∧ ∀ r, r < 16 → 0 ≤ (awH1.lk r).count ∧ (awH1.lk r).count ≤ 4611686018427387900 := by
  refine ⟨rfl, rfl, fun r _ => ?_⟩
  cases r with
  | zero => exact ⟨(by decide : (0 : Int) ≤ 1), (by decide : (1 : Int) ≤ 4611686018427387900)⟩
  | succ r => exact ⟨(by decide : (0 : Int) ≤ 0), (by decide : (0 : Int) ≤ 4611686018427387900)⟩
theorem aw_8 : ∀ r, r < 16 → 0 ≤ (awH2.lk r).count ∧ (awH2.lk r).count ≤ 4611686018427387900 := by
  intro r _
  cases r with
  | zero => exact ⟨(by decide : (0 : Int) ≤ 1), (by decide : (1 : Int) ≤ 4611686018427387900)⟩
  | succ r => exact ⟨(by decide : (0 : Int) ≤ 0), (by decide : (0 : Int) ≤ 4611686018427387900)⟩
set_option maxRecDepth 100000 in
set_option maxHeartbeats 4000000 in
theorem awake10_any (w : World) : Calls Try.prog 6 #[] w fun e w' => e = .returned (.bool true) ∧ Below w.heap.size w w' := by
  go_enter Try.func6, Try.ntmps6
  go_wp2_with fail
  refine (Hold_any w 1 2).mono ?_
  rw [show keptM 2 = 2 from rfl]
  rintro e w1 ⟨b, rfl, x1, b1, hb⟩
  have X1 := Lib.hid x1
  have B1 := Lib.hid b1
  have Hb := Lib.hid hb
  clear x1 b1 hb
  go_wp2_with fail
  refine (New_clean w1 1 2).mono ?_
  rw [show keptM 2 = 2 from rfl]
  rintro e w2 ⟨tb, rfl, y2, l2, b2, ht, nt⟩
  have X2 := Lib.hid (X1.out.below b2)
  have Y2 := Lib.hid y2
  have L2 := Lib.hid l2
  have B2 := Lib.hid (bnext B1.out b2)
  have hne : tb ≠ b := by have := X1.out.lt; omega
  have Htb : Hid (w.heap.size ≤ tb) := Lib.hid (Nat.le_trans B1.out.size ht)
  have SB : Hid (∀ g, Tb w2 tb g → w.heap.size ≤ g ∧ g ≠ b) := Lib.hid (fun g hg => absurd hg (nt g))
  clear y2 l2 b2 ht nt
  have z0 : ((0 : Nat) : Int) = 0 := rfl
  go_wp2_with fail
  refine (hWant_any X2.out 0 2 (fun r _ _ => ⟨by simp [Ho.new, lk0], by simp [Ho.new, lk0]⟩)).mono ?_
  rw [aw_1, aw_2, ntV_def]
  rintro e w3 ⟨rfl, x3, m3⟩
  have X3 : Hid (IsH w3 b awH1) := Lib.hid x3
  have Y3 := Lib.hid (Y2.out.later m3 hne (fun g hg e => (SB.out g hg).2 e))
  have L3 := Lib.hid (tlt_back L2.out m3 Y2.out.lt hne)
  have SB3 : Hid (∀ g, Tb w3 tb g → w.heap.size ≤ g ∧ g ≠ b) := Lib.hid (fun g hg => SB.out g (hg.back m3 Y2.out.lt hne))
  have B3 : Hid (Below w.heap.size w w3) := Lib.hid (bmod B2.out m3 Hb.out)
  clear x3 m3
  obtain ⟨W4, HW4⟩ : ∃ x, Hid (w3.alloc (.cells #[.int .i64 1, .int .i64 1, .int .i64 0, .int .i64 2, .int .i64 1] 23) = x) := ⟨_, Lib.hid rfl⟩
  obtain ⟨p, Hp⟩ : ∃ x, Hid (w3.heap.size = x) := ⟨_, Lib.hid rfl⟩
  have B34 : Hid (Below w3.heap.size w3 W4) := Lib.hid (by rw [← HW4.out]; exact balloc (Below.refl _ _) _)
  have P4 : Hid (NtAt W4 p ⟨1, 1, 0, 2, 1⟩) := Lib.hid (by rw [← HW4.out, ← Hp.out]; exact NtAt.new w3 ⟨1, 1, 0, 2, 1⟩ _)
  have hpb : p ≠ b := by have := X3.out.lt; have := Hp.out; omega
  have hpt : p ≠ tb := by have := Y3.out.lt; have := Hp.out; omega
  have hpw : w.heap.size ≤ p := by have := B3.out.size; have := Hp.out; omega
  have B4 : Hid (Below w.heap.size w W4) := Lib.hid (bnext B3.out B34.out)
  have X4 := Lib.hid (X3.out.below B34.out)
  have Y4 := Lib.hid (Y3.out.below B34.out)
  have L4 := Lib.hid (tlt_back L3.out (Mod.of_below (S := fun _ => False) B34.out) Y3.out.lt id)
  have SB4 : Hid (∀ g, Tb W4 tb g → w.heap.size ≤ g ∧ g ≠ b) := Lib.hid (fun g hg => SB3.out g (hg.back (Mod.of_below (S := fun _ => False) B34.out) Y3.out.lt id))
  have HC5 := Lib.hid (tHear_any Y4.out L4.out 3 ⟨1, 1, 0, 2, 1⟩)
  rw [aw_3, ntV_def] at HC5
  go_wp2_with fail
  rw [HW4.out, Hp.out]
  refine HC5.out.mono ?_
  rintro e w5 ⟨T5, rfl, r5, y5, l5, m5, t5, k5⟩
  obtain ⟨g5, o5, c5, rfl, d5⟩ := td_first r5
  have Y5 : Hid (IsT w5 tb awT1) := Lib.hid y5
  have L5 := Lib.hid l5
  have D5 := Lib.hid d5
  have hg5 : W4.heap.size ≤ g5 := t5 g5 rfl
  have hg5b : g5 ≠ b := by have := X4.out.lt; omega
  have hg5t : g5 ≠ tb := by have := Y4.out.lt; omega
  have hg5w : w.heap.size ≤ g5 := by have := B4.out.size; omega
  have X5 := Lib.hid (X4.out.later m5 hne.symm)
  have P5 := Lib.hid (P4.out.later m5 hpt)
  have SB5 : Hid (∀ g, Tb w5 tb g → w.heap.size ≤ g ∧ g ≠ b) := Lib.hid (fun g hg => by
    rcases k5 g hg with h | h
    · exact SB4.out g h
    · have := X4.out.lt; have := B4.out.size; exact ⟨by omega, by omega⟩)
  have B5 : Hid (Below w.heap.size w w5) := Lib.hid (bmod B4.out m5 Htb.out)
  clear r5 y5 l5 m5 t5 k5 d5 hg5 HC5
  have u1 := D5.out.c1
  have u2 := D5.out.c2
  have u3 := D5.out.c3
  have u4 := D5.out.c4
  have u5 := D5.out.c5
  have HC6 := Lib.hid (hHear_any X5.out ⟨3, 1, 0, 2, 1⟩ aw_7.2.2)
  rw [ntV_def] at HC6
  go_wp2_with fail
  refine HC6.out.mono ?_
  rintro e w6 ⟨T6, rfl, r6, x6, m6, t6⟩
  have X6 : Hid (IsH w6 b awH2) := Lib.hid x6
  have Y6 := Lib.hid (Y5.out.later m6 hne (fun g hg e => (SB5.out g hg).2 e))
  have L6 := Lib.hid (tlt_back L5.out m6 Y5.out.lt hne)
  have SB6 : Hid (∀ g, Tb w6 tb g → w.heap.size ≤ g ∧ g ≠ b) := Lib.hid (fun g hg => SB5.out g (hg.back m6 Y5.out.lt hne))
  have D6 := Lib.hid (D5.out.later m6 hg5b)
  have P6 := Lib.hid (P5.out.later m6 hpb)
  have B6 : Hid (Below w.heap.size w w6) := Lib.hid (bmod B5.out m6 Hb.out)
  clear r6 x6 m6 t6 u1 u2 u3 u4 u5 HC6
  have HC7 := Lib.hid (tHear_any Y6.out L6.out 4 ⟨1, 1, 0, 1, 1⟩)
  rw [aw_4, ntV_def] at HC7
  go_wp2_with fail
  refine HC7.out.mono ?_
  rintro e w7 ⟨T7, rfl, r7, y7, l7, m7, t7, k7⟩
  obtain ⟨g7, o7, c7, rfl, d7⟩ := td_first r7
  have D7 := Lib.hid d7
  have hg7 : w6.heap.size ≤ g7 := t7 g7 rfl
  have hg7b : g7 ≠ b := by have := X6.out.lt; omega
  have X7 := Lib.hid (X6.out.later m7 hne.symm)
  have P7 := Lib.hid (P6.out.later m7 hpt)
  have D57 := Lib.hid (D6.out.later m7 hg5t)
  have B7 : Hid (Below w.heap.size w w7) := Lib.hid (bmod B6.out m7 Htb.out)
  clear r7 y7 l7 m7 t7 k7 d7 hg7 HC7
  have u1 := D7.out.c1
  have u2 := D7.out.c2
  have u3 := D7.out.c3
  have u4 := D7.out.c4
  have u5 := D7.out.c5
  have HC8 := Lib.hid (hHear_any X7.out ⟨4, 1, 0, 1, 1⟩ aw_8)
  rw [aw_5, ntV_def] at HC8
  go_wp2_with fail
  refine HC8.out.mono ?_
  rintro e w8 ⟨T8, rfl, r8, x8, m8, t8⟩
  obtain ⟨A8, c8, rfl⟩ := r8.shape
  have X8 : Hid (IsH w8 b awH3) := Lib.hid x8
  have D58 := Lib.hid (D57.out.later m8 hg5b)
  have D78 := Lib.hid (D7.out.later m8 hg7b)
  have P8 := Lib.hid (P7.out.later m8 hpb)
  have B8 : Hid (Below w.heap.size w w8) := Lib.hid (bmod B7.out m8 Hb.out)
  clear r8 x8 m8 t8 u1 u2 u3 u4 u5 HC8
  rw [show ([] : List Nt).length = 0 from rfl]
  have HC9 := Lib.hid (hCalled_any X8.out 0)
  rw [aw_6.1, aw_6.2.1] at HC9
  go_wp2_with fail
  refine HC9.out.mono ?_
  rintro e w9 ⟨rfl, b9⟩
  have X9 := Lib.hid (X8.out.below b9)
  have D59 := Lib.hid (D58.out.below b9)
  have D79 := Lib.hid (D78.out.below b9)
  have P9 := Lib.hid (P8.out.below b9)
  have B9 : Hid (Below w.heap.size w w9) := Lib.hid (bnext B8.out b9)
  clear b9 HC9
  have p4 := P9.out.c4
  have v0 := D59.out.c0
  have v1 := D59.out.c1
  have v4 := D59.out.c4
  have HC10 := Lib.hid (hMode_any X9.out 0)
  rw [aw_6.2.2] at HC10
  go_wp2_with fail
  refine HC10.out.mono ?_
  rintro e w10 ⟨rfl, b10⟩
  have u0 := (D79.out.below b10).c0
  have u1 := (D79.out.below b10).c1
  have u4 := (D79.out.below b10).c4
  have B10 : Hid (Below w.heap.size w w10) := Lib.hid (bnext B9.out b10)
  clear b10 HC10 p4 v0 v1 v4
  go_wp2
  go_ret
  exact ⟨rfl, B10.out⟩
end Go.Proofs.Ythpmodohfjjjcaa
