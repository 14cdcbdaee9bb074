/- What package inode reads, at this translation. -/
import Derived.Test.YtdlbibhekoobjaaRp14
import Derived.Test.YtdlbibhekoobjaaIb14
import Derived.Test.YtdlbibhekoobjaaIo14
namespace Go.Proofs.Ytdlbibhekoobjaa
open Go.RowKit

/-- A reader, whether broken or not. -/
def RdX (w : World) (b : Nat) (l : List UInt8) : Prop := ∃ br, Rd w b l br
set_option maxRecDepth 100000 in
set_option maxHeartbeats 2000000 in
theorem numbers_any (b : Nat) (l : List UInt8) (br : Bool) (K : Nat) (hK : K ≤ 20) (w : World) (h : Rd w b l br) :
    Calls Try.prog 34 #[.int .i64 (K : Int), .func (.func 32) #[.pointer (some ⟨b, 0, none⟩)] #[]] w fun e w' => ∃ v, e = .returned v ∧ RG w' 1 encI v (nums4 K l) ∧ RdX w' b (left4 K l) ∧ (∀ g, blk v = some g → w.heap.size ≤ g) ∧ Mod (· = b) w w' := by
  have H := Lib.hid h
  have hbl := h.lt
  clear h
  go_enter Try.func34, Try.ntmps34
  go_wp2
  go_loopw [5, 7] (fun o i wr => ∃ j : Nat, j ≤ K ∧ i = .int .i64 j ∧ Hid (RG wr 1 encI o (nums4 j l)) ∧ Hid (RdX wr b (left4 j l)) ∧ Hid (∀ g, blk o = some g → w.heap.size ≤ g) ∧ Hid (Mod (· = b) w wr)) (fun _ i _ => K - (intOf i).toNat)
  case atStart => exact ⟨0, Nat.zero_le _, rfl, Lib.hid (RG.nil _ _ _), Lib.hid ⟨br, H.out⟩, Lib.hid (fun g hg => by cases hg), Lib.hid (Mod.refl _ _)⟩
  case round =>
    obtain ⟨j, hj, rfl, HR, HD, HN, HM⟩ := hrel
    obtain ⟨br', hd⟩ := HD.out
    by_cases hlt : j < K
    · have hltI : (j : Int) < (K : Int) := by omega
      obtain ⟨A5, c5, he⟩ := HR.out.shape
      rw [nums4_length] at he
      subst he
      go_wp2_with fail
      refine (RFour_any _ _ _ _ hd).mono ?_
      obtain ⟨z, Hz⟩ : ∃ z, Hid (num (takeS (left4 j l) 4) = z) := ⟨_, Lib.hid rfl⟩
      have Hnx : Hid (nums4 (j + 1) l = nums4 j l ++ [(z : Int)]) := Lib.hid (by rw [nums4, Hz.out])
      rw [Hz.out]
      rintro e w2 ⟨rfl, hm, hr⟩
      have D2 : Hid (Rd w2 b (left4 (j + 1) l) (takeB (left4 j l) br' 4)) := Lib.hid hr
      have M2 : Hid (Mod (· = b) w w2) := Lib.hid (HM.out.trans hm)
      have R2 : Hid (RG w2 1 encI (.slice A5 j c5) (nums4 j l)) := Lib.hid (HR.out.later hm (fun g hg e => by have := HN.out g hg; omega))
      clear hm hr hd
      obtain ⟨W3, HW3⟩ : ∃ y, Hid (w2.alloc (.cells #[.int .i64 (z : Int)] 3) = y) := ⟨_, Lib.hid rfl⟩
      have B3 : Hid (Below w2.heap.size w2 W3) := Lib.hid (by rw [← HW3.out]; exact balloc (Below.refl _ w2) _)
      obtain ⟨q, Hq⟩ : ∃ y, Hid (w2.heap.size = y) := ⟨_, Lib.hid rfl⟩
      have G3 : Hid (IsG W3 1 encI (some ⟨q, 0, none⟩) 1 [(z : Int)]) := Lib.hid (by rw [← HW3.out, ← Hq.out]; exact in_one w2 (z : Int) _)
      obtain ⟨T6, w6, hr6, r6, a6⟩ := appG inInf encI_ok (R2.out.below B3.out) (c := 1) G3.out (by rw [nums4_length]; omega) (by decide) 22
      have Hr6 := Lib.hid hr6
      have HR6 : Hid (RG w6 1 encI T6 (nums4 (j + 1) l)) := Lib.hid (by rw [Hnx.out]; exact r6)
      have HN6 : Hid (∀ g, blk T6 = some g → w.heap.size ≤ g) := Lib.hid (fun g hg => by
        rcases a6.blk with e | ⟨g', e, h'⟩
        · exact HN.out g (e ▸ hg)
        · rw [e] at hg; injection hg with hg; have := B3.out.size; have := M2.out.size; omega)
      have M26 : Mod (fun g => blk (.slice A5 j c5) = some g) w2 w6 := (Mod.of_below B3.out).trans a6.mod
      have HD6 : Hid (RdX w6 b (left4 (j + 1) l)) := Lib.hid ⟨_, D2.out.later M26 (fun e => by have := HN.out b e; omega)⟩
      have HM6 : Hid (Mod (· = b) w w6) := Lib.hid ⟨M26.os.trans M2.out.os, M26.tape.trans M2.out.tape, M26.output.trans M2.out.output, Nat.le_trans M2.out.size M26.size, fun k hk hn => (M26.block k (Nat.lt_of_lt_of_le hk M2.out.size) (fun e => by have := HN.out k e; omega)).trans (M2.out.block k hk hn)⟩
      clear hr6 r6 a6 M26
      go_wp2_with (at_builtin; rw [HW3.out, Hq.out]; refine wpList_append_run rfl (.tmp 9) (.tmp 12) 22 rfl (by exact Hr6.out) ?_)
      go_roundw
      case rel => exact ⟨j + 1, by omega, by go_num, HR6, HD6, HN6, HM6⟩
      case measure => simp [intOf]; omega
    · have hjK : j = K := by omega
      subst hjK
      have hltI : ¬ (j : Int) < (j : Int) := by omega
      go_wp2
      go_ret
      exact ⟨_, rfl, HR.out, HD.out, HN.out, HM.out⟩
set_option maxRecDepth 100000 in
set_option maxHeartbeats 4000000 in
theorem IRead_any (s : List UInt8) (w : World) :
    Calls Try.prog 18 #[.string (str s)] w fun e w' => ∃ (X : Ino) (A : Option Addr) (n c : Nat) (E : Int), e = .returned (.tuple #[inoV X A n c, .int .i64 E]) ∧ IsG w' 1 encI A n X.d ∧ n ≤ 12 ∧ Reads s X E ∧ Below w.heap.size w w' := by
  obtain ⟨X, HX⟩ : ∃ x, Hid (rdI s = x) := ⟨_, Lib.hid rfl⟩
  have Hyes : Hid (inoB X = true → inoBy X = s → Reads s X 0) := Lib.hid (fun h1 h2 => by have h := reads_yes (s := s); rw [HX.out] at h; exact h h1 h2)
  have Hno : Hid (¬ (inoB X = true ∧ inoBy X = s) → Reads s .zero 10) := Lib.hid (fun h1 => by have h := reads_no (s := s); rw [HX.out] at h; exact h h1)
  obtain ⟨K, HK⟩ : ∃ x, Hid (rdK s = x) := ⟨_, Lib.hid rfl⟩
  have hK := rdK_le s
  rw [HK.out] at hK
  obtain ⟨hK1, hK2⟩ := hK
  have HK2 := Lib.hid hK2
  have HXk : Hid (pk s = X.k) := Lib.hid (by rw [← HX.out]; rfl)
  have HXl : Hid (pl s = X.l) := Lib.hid (by rw [← HX.out]; rfl)
  have HXs : Hid (ps s = X.s) := Lib.hid (by rw [← HX.out]; rfl)
  have HXd : Hid (nums4 K (pE s) = X.d) := Lib.hid (by rw [← HX.out, ← HK.out]; rfl)
  have hsl := ps_lt s
  rw [HXs.out] at hsl
  obtain ⟨hs0, hs1⟩ := hsl
  have e3 : IntKind.i64.max = 9223372036854775807 := by decide
  have e2 : IntKind.i64.min = -9223372036854775808 := by decide
  have Hws : Hid ((Lit.int .i64 X.s).wf = true) := Lib.hid (by simp [Lit.wf, e2, e3]; omega)
  have Hwm : Hid ((Lit.int .i64 (min X.s 6144)).wf = true) := Lib.hid (by simp [Lit.wf, e2, e3]; omega)
  rw [HXs.out] at HK2
  clear hK2 e2 e3
  obtain ⟨p, Hp⟩ : ∃ p, Hid (w.heap.size = p) := ⟨_, Lib.hid rfl⟩
  go_enter Try.func18, Try.ntmps18
  go_wp2_with fail
  obtain ⟨W0, HW0⟩ : ∃ z, Hid (w.alloc (.cells #[.int .i64 Ino.zero.k, .int .i64 Ino.zero.l, .int .i64 Ino.zero.s, .slice none 0 0] 24) = z) := ⟨_, Lib.hid rfl⟩
  have Z0 : Hid (InoF W0 p .zero none 0 0) := Lib.hid (by rw [← HW0.out, ← Hp.out]; exact InoF.new w .zero none 0 0 _)
  have B0 : Hid (Below p w W0) := Lib.hid (by rw [← HW0.out, ← Hp.out]; exact balloc (Below.refl _ w) _)
  have HWz : Hid (w.alloc (.cells #[.int .i64 0, .int .i64 0, .int .i64 0, .slice none 0 0] 24) = W0) := Lib.hid HW0.out
  rw [HWz.out, Hp.out]
  have hp0 : W0.heap.size = p + 1 := by rw [← HW0.out, ← Hp.out]; simp
  refine (Read_any _ _).mono ?_
  rw [hp0]
  rintro e w1 ⟨rfl, hb, hr, _⟩
  have R1 := Lib.hid hr
  have Z1 := Lib.hid (Z0.out.below (by rw [hp0]; exact hb))
  have B1 : Hid (Below p w w1) := Lib.hid (B0.out.trans (hb.mono (by omega)))
  clear hb hr hp0
  go_wp2_with fail
  refine (RFour_any _ _ _ _ R1.out).mono ?_
  rintro e w2 ⟨rfl, hm, hr⟩
  have M2 := Lib.hid hm
  have R2 : Hid (Rd w2 (p + 1) (pB s) _) := Lib.hid hr
  clear hm hr
  go_wp2_with fail
  refine (RTwo_any _ _ _ _ R2.out).mono ?_
  rw [show (((textN (pB s) : Nat) : Int)) = X.k from HXk.out]
  rintro e w3 ⟨rfl, hm, hr⟩
  have M3 := Lib.hid (M2.out.trans hm)
  have R3 : Hid (Rd w3 (p + 1) (pC s) _) := Lib.hid hr
  clear hm hr
  go_wp2_with fail
  refine (RTwo_any _ _ _ _ R3.out).mono ?_
  rw [show (((textN (pC s) : Nat) : Int)) = X.l from HXl.out]
  rintro e w4 ⟨rfl, hm, hr⟩
  have M4 := Lib.hid (M3.out.trans hm)
  have R4 : Hid (Rd w4 (p + 1) (pD s) _) := Lib.hid hr
  clear hm hr
  go_wp2_with fail
  refine (RFour_any _ _ _ _ R4.out).mono ?_
  rw [show (((num (takeS (pD s) 4) : Nat) : Int)) = X.s from HXs.out]
  rintro e w5 ⟨rfl, hm, hr⟩
  have M5 := Lib.hid (M4.out.trans hm)
  have R5 : Hid (Rd w5 (p + 1) (pE s) _) := Lib.hid hr
  clear hm hr
  have Z5 : Hid (InoF w5 p .zero none 0 0) := Lib.hid (Z1.out.later M5.out (by omega))
  have B5 : Hid (Below p w w5) := Lib.hid (M5.out.below B1.out (by have := Z1.out.ino.lt; omega) (by rintro i rfl; omega))
  have hp5 : p + 1 < w5.heap.size := R5.out.lt
  obtain ⟨q, Hq⟩ : ∃ q, Hid (w5.heap.size = q) := ⟨_, Lib.hid rfl⟩
  obtain ⟨W6, HW6⟩ : ∃ z, Hid (w5.alloc (.cells #[.int .i64 X.k, .int .i64 X.l, .int .i64 X.s, .slice none 0 0] 24) = z) := ⟨_, Lib.hid rfl⟩
  have hb6 : Below w5.heap.size w5 W6 := by rw [← HW6.out]; exact balloc (Below.refl _ w5) _
  have Q6 : Hid (InoF W6 q ⟨X.k, X.l, X.s, []⟩ none 0 0) := Lib.hid (by rw [← HW6.out, ← Hq.out]; exact InoF.new w5 ⟨X.k, X.l, X.s, []⟩ none 0 0 _)
  have R6 := Lib.hid (R5.out.below hb6)
  have Z6 := Lib.hid (Z5.out.below hb6)
  have B6 : Hid (Below p w W6) := Lib.hid (B5.out.trans (hb6.mono (by omega)))
  clear hb6
  go_wp2_with fail
  rw [HW6.out, Hq.out]
  refine (Need_any _ Hwm.out _).mono ?_
  rw [← HK2.out]
  rintro e w7 ⟨rfl, rfl⟩
  have hqp : q ≠ p + 1 := by have := Hq.out; omega
  have hqp2 : q ≠ p := by have := Hq.out; omega
  go_wp2_with fail
  refine (numbers_any (p + 1) (pE s) _ K (by omega) _ R6.out).mono ?_
  rw [HXd.out]
  rintro e w8 ⟨v, rfl, hr, _, hn, hm⟩
  obtain ⟨A8, c8, he⟩ := hr.shape
  have HdK : Hid (X.d.length = K) := Lib.hid (by rw [← HXd.out, nums4_length])
  rw [HdK.out] at he
  subst he
  have G8 := Lib.hid (hr.is encI_ok).1
  have Hnp : Hid (∀ g off, A8 = some ⟨g, off, none⟩ → g ≠ p) := Lib.hid (fun g off e e2 => by have := hn g (by rw [e]; rfl); have := Z6.out.ino.lt; omega)
  have Q8 : Hid (InoF w8 q ⟨X.k, X.l, X.s, []⟩ none 0 0) := Lib.hid (Q6.out.later hm hqp)
  have Z8 : Hid (InoF w8 p .zero none 0 0) := Lib.hid (Z6.out.later hm (by omega))
  have B8 : Hid (Below p w w8) := Lib.hid (hm.below B6.out (by have := Z6.out.ino.lt; omega) (by rintro i rfl; omega))
  have hqn : ∀ g, blk (.slice A8 K c8) = some g → g ≠ q := fun g hg e => by have := hn g hg; have := Q6.out.ino.lt; omega
  have G9 : Hid (IsG (w8.setCell ⟨q, 3, none⟩ (.slice A8 K c8)) 1 encI A8 K X.d) := Lib.hid (G8.out.later (S := (· = q)) ((Mod.refl _ w8).set1 _) (fun g off e h0 hg => hqn g (by rw [e]; rfl) hg))
  have Q9 : Hid (InoF (w8.setCell ⟨q, 3, none⟩ (.slice A8 K c8)) q X A8 K c8) := Lib.hid
    ⟨⟨set_other (by simp) Q8.out.ino.c0, set_other (by simp) Q8.out.ino.c1, set_other (by simp) Q8.out.ino.c2, set_same Q8.out.ino.c3⟩, fun j hj => set_frozen (Q8.out.free j hj)⟩
  have Z9 : Hid (InoF (w8.setCell ⟨q, 3, none⟩ (.slice A8 K c8)) p .zero none 0 0) := Lib.hid (Z8.out.later (S := (· = q)) ((Mod.refl _ w8).set1 _) (fun e => hqp2 e.symm))
  have B9 : Hid (Below p w (w8.setCell ⟨q, 3, none⟩ (.slice A8 K c8))) := Lib.hid (B8.out.setCell (by show p ≤ q; have := Hq.out; omega) _)
  obtain ⟨W9, HW9⟩ : ∃ z, Hid (w8.setCell ⟨q, 3, none⟩ (.slice A8 K c8) = z) := ⟨_, Lib.hid rfl⟩
  rw [HW9.out] at G9 Q9 Z9 B9
  have c3 := Q8.out.ino.c3
  have f3 := Q8.out.free 3 (by omega)
  have lt8 := Q8.out.ino.lt
  have hW9 := HW9.out
  have lt9 := Q9.out.ino.lt
  obtain ⟨d0, d1, d2, d3⟩ := Q9.out.ino
  obtain ⟨S, HS⟩ : ∃ z, Hid (inoBy X = z) := ⟨_, Lib.hid rfl⟩
  obtain ⟨E, HE⟩ : ∃ z, Hid (inoE X = z) := ⟨_, Lib.hid rfl⟩
  clear hr hn hm hqn
  go_wp2_with fail
  refine (IBytes_any X A8 K c8 (by omega) Hws.out _ G9.out).mono ?_
  rw [HS.out, HE.out]
  rintro e w10 ⟨rfl, hb⟩
  have G10 := Lib.hid (G9.out.below hb)
  have Q10 := Lib.hid (Q9.out.below hb)
  have Z10 := Lib.hid (Z9.out.below hb)
  have B10 : Hid (Below p w w10) := Lib.hid (B9.out.trans (hb.mono (by have := Z9.out.ino.lt; omega)))
  clear hb c3 f3 lt8 hW9 lt9 d0 d1 d2 d3
  have hcase : (E = 0 ∧ S = s ∧ Reads s X 0) ∨ (((E != 0) = true ∨ ((E != 0) = false ∧ (S == s) = false)) ∧ Reads s .zero 10) := by
    by_cases hk : inoB X = true
    · have hE : E = 0 := by rw [← HE.out]; exact if_pos hk
      by_cases hS : S = s
      · exact .inl ⟨hE, hS, Hyes.out hk (by rw [HS.out]; exact hS)⟩
      · exact .inr ⟨.inr ⟨by simp [hE], by simp [hS]⟩, Hno.out (fun h => hS (by rw [← HS.out]; exact h.2))⟩
    · have hE : E = 1 := by rw [← HE.out]; exact if_neg hk
      exact .inr ⟨.inl (by simp [hE]), Hno.out (fun h => hk h.1)⟩
  have ltq := Q10.out.ino.lt
  obtain ⟨d0, d1, d2, d3⟩ := Q10.out.ino
  have ltp := Z10.out.ino.lt
  obtain ⟨z0, z1, z2, z3⟩ := Z10.out.ino
  have f0 := Z10.out.free 0 (by omega)
  have f1 := Z10.out.free 1 (by omega)
  have f2 := Z10.out.free 2 (by omega)
  have f3 := Z10.out.free 3 (by omega)
  have B11 : Hid (∀ a b c d, Below w.heap.size w ((((w10.setCell ⟨p, 0, none⟩ a).setCell ⟨p, 1, none⟩ b).setCell ⟨p, 2, none⟩ c).setCell ⟨p, 3, none⟩ d)) := Lib.hid (fun a b c d => by
    rw [Hp.out]
    exact (((B10.out.setCell (Nat.le_refl _) _).setCell (Nat.le_refl _) _).setCell (Nat.le_refl _) _).setCell (Nat.le_refl _) _)
  have Hqq : Hid (w.heap.size = p) := Hp
  rcases hcase with ⟨hE, hS, hR⟩ | ⟨hc, hR⟩
  · have q1 : (E != 0) = false := by simp [hE]
    have q2 : (S == s) = true := by simp [hS]
    have HR := Lib.hid hR
    have G11 : Hid (IsG ((((w10.setCell ⟨p, 0, none⟩ (.int .i64 X.k)).setCell ⟨p, 1, none⟩ (.int .i64 X.l)).setCell ⟨p, 2, none⟩ (.int .i64 X.s)).setCell ⟨p, 3, none⟩ (.slice A8 K c8)) 1 encI A8 K X.d) := Lib.hid (G10.out.later (S := (· = p)) ((((Mod.refl _ w10).set1 _).set1 _).set1 _ |>.set1 _) (fun g off e h0 hg => Hnp.out g off e hg))
    clear hE hS hR
    go_wp2
    refine bodyPost_ret (v := .tuple #[inoV X A8 K c8, .int .i64 0]) ?_ rfl ⟨X, A8, K, c8, 0, rfl, G11.out, by omega, HR.out, B11.out _ _ _ _⟩
    rw [results_cell_tmp rfl]
    go_simp
    all_goals first | rfl | ((repeat' apply And.intro) <;> rfl)
  · have HR := Lib.hid hR
    rcases hc with q1 | ⟨q1, q2⟩
    · clear hR
      go_wp2
      refine bodyPost_ret (v := .tuple #[inoV .zero none 0 0, .int .i64 10]) ?_ rfl ⟨.zero, none, 0, 0, 10, rfl, ⟨rfl, Nat.zero_le _, fun h => absurd h (Nat.lt_irrefl _)⟩, by omega, HR.out, B11.out _ _ _ _⟩
      rw [results_cell_tmp rfl]
      go_simp
      all_goals first | rfl | ((repeat' apply And.intro) <;> rfl)
    · clear hR
      go_wp2
      refine bodyPost_ret (v := .tuple #[inoV .zero none 0 0, .int .i64 10]) ?_ rfl ⟨.zero, none, 0, 0, 10, rfl, ⟨rfl, Nat.zero_le _, fun h => absurd h (Nat.lt_irrefl _)⟩, by omega, HR.out, B11.out _ _ _ _⟩
      rw [results_cell_tmp rfl]
      go_simp
      all_goals first | rfl | ((repeat' apply And.intro) <;> rfl)
end Go.Proofs.Ytdlbibhekoobjaa
