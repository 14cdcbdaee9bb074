/- Bytes are read as a list: the program's and the document's, at this translation. -/
import Derived.Test.YtnoidhfhnaemgaaDoorRp15
import Derived.Test.YtnoidhfhnaemgaaDoorRefRd01
namespace Go.Proofs.YtnoidhfhnaemgaaDoor
open Go.RowKit

set_option maxRecDepth 100000 in
set_option maxHeartbeats 8000000 in
theorem ReadE_any (s0 : List UInt8) (hs : s0.length ≤ 30000) (w : World) :
    Calls Tryd.prog 22 #[.string (str s0)] w fun e w' => ∃ (X : List Ent) (A : Option Addr) (n c : Nat) (E : Int), e = .returned (.tuple #[.slice A n c, .int .i64 E]) ∧ IsG w' 2 encN A n X ∧ n ≤ 30000 ∧ ReadsN s0 X E ∧ Below w.heap.size w w' := by
  go_enter Tryd.func22, Tryd.ntmps22
  go_wp2_with fail
  refine (Read_any s0 w).mono ?_
  rintro e w1 ⟨rfl, b1, r1, sz1⟩
  obtain ⟨b, Hb⟩ : ∃ b, Hid (w.heap.size = b) := ⟨_, Lib.hid rfl⟩
  rw [Hb.out] at r1 ⊢
  have T1 : Hid (Rd w1 b s0 false ∧ Below b w w1) := Lib.hid ⟨r1, by rw [← Hb.out]; exact b1⟩
  clear b1 r1 sz1
  go_wp2_with fail
  go_loopw [5] (fun v wr => ∃ (X : List Ent) (s : List UInt8) (br : Bool), s.length ≤ 30000 ∧ Hid (Par s0 X s br) ∧ Hid (Rd wr b s br ∧ RG wr 2 encN v X ∧ (∀ g, blk v = some g → b < g) ∧ Below b w wr)) (fun v _ => s0.length - lenV v)
  case atStart => exact ⟨[], s0, false, hs, Lib.hid (Par.first s0), Lib.hid ⟨T1.out.1, RG.nil _ _ _, (fun g e => by cases e), T1.out.2⟩⟩
  case round =>
    obtain ⟨X, s, br, hsl, HP, HR⟩ := hrel
    obtain ⟨A2, c2, rfl⟩ := HR.out.2.1.shape
    obtain ⟨dn, Hdn⟩ : ∃ dn, Hid (X.length = dn) := ⟨_, Lib.hid rfl⟩
    have hdl : dn + s.length ≤ s0.length := by rw [← Hdn.out]; exact HP.out.len
    rw [Hdn.out] at HR ⊢
    by_cases h0 : s = []
    · subst h0
      have hl0 : (([] : List UInt8).length : Int) = 0 := rfl
      have Hlen := HP.out.len
      obtain ⟨R, HRt⟩ : ∃ r, Hid (bytesW X = r) := ⟨_, Lib.hid rfl⟩
      obtain ⟨V, HV⟩ : ∃ r, Hid (bytesV X = r) := ⟨_, Lib.hid rfl⟩
      have HI := Lib.hid (HR.out.2.1.is encN_ok).1
      clear Hlen
      go_wp2_with fail
      refine (Left_any b [] br wr HR.out.1).mono ?_
      rintro e w2 ⟨rfl, rfl⟩
      rw [hl0]
      go_wp2_with fail
      refine (Bytes_any A2 dn c2 X wr HI.out (by omega)).mono ?_
      rw [HRt.out, HV.out]
      rintro e w3 ⟨rfl, b3⟩
      have BW : Hid (Below w.heap.size w wr) := Lib.hid (by rw [Hb.out]; exact HR.out.2.2.2)
      have B3 : Hid (Below w.heap.size w w3 ∧ IsG w3 2 encN A2 dn X) := Lib.hid ⟨bnext BW.out b3, HI.out.below b3⟩
      clear b3 hl0
      cases hr : rightN X with
      | false =>
        obtain rfl : R = 1 := by rw [← HRt.out, bytesW, hr]; rfl
        have HF := Lib.hid (HP.out.no (fun e => by rw [hr] at e; cases e.1))
        clear hr
        go_wp2_with fail
        go_ret2
        exact ⟨[], none, 0, 0, 10, rfl, ⟨rfl, Nat.zero_le _, fun h => absurd h (Nat.lt_irrefl _)⟩, Nat.zero_le _, HF.out, B3.out.1⟩
      | true =>
        obtain rfl : R = 0 := by rw [← HRt.out, bytesW, hr]; rfl
        have hv : V = bytesN X := by rw [← HV.out, bytesV, hr]; rfl
        by_cases he : V = s0
        · have HF := Lib.hid (Par.yes (s0 := s0) hr (by rw [← hv]; exact he))
          have hne : (V == s0) = true := by simp [he]
          clear hr hv he
          go_wp2_with fail
          go_ret2
          exact ⟨X, A2, dn, c2, 0, rfl, B3.out.2, by omega, HF.out, B3.out.1⟩
        · have HF := Lib.hid (HP.out.no (fun e => he (by rw [hv]; exact e.2)))
          have hne : (V == s0) = false := by simp [he]
          clear hr hv he
          go_wp2_with fail
          go_ret2
          exact ⟨[], none, 0, 0, 10, rfl, ⟨rfl, Nat.zero_le _, fun h => absurd h (Nat.lt_irrefl _)⟩, Nat.zero_le _, HF.out, B3.out.1⟩
    · have hl0 : (0 : Int) < (s.length : Int) := by have := List.length_pos_iff.2 h0; omega
      have HPs := Lib.hid (HP.out.step h0)
      have hrl := restP_lt h0
      obtain ⟨nm, Hnm⟩ : ∃ t, Hid (rtextS s = t) := ⟨_, Lib.hid rfl⟩
      obtain ⟨s1, Hs1⟩ : ∃ t, Hid (rtextL s = t) := ⟨_, Lib.hid rfl⟩
      obtain ⟨b1, Hb1⟩ : ∃ t, Hid (rtextB s br = t) := ⟨_, Lib.hid rfl⟩
      obtain ⟨sc, Hsc⟩ : ∃ t : Nat, Hid (num (takeS s1 4) = t) := ⟨_, Lib.hid rfl⟩
      obtain ⟨s2, Hs2⟩ : ∃ t, Hid (takeL s1 4 = t) := ⟨_, Lib.hid rfl⟩
      obtain ⟨b2, Hb2⟩ : ∃ t, Hid (takeB s1 b1 4 = t) := ⟨_, Lib.hid rfl⟩
      have HPs2 : Hid (Par s0 (X ++ [(nm, (sc : Int))]) s2 b2) := Lib.hid (by
        have := HPs.out
        rw [entP, restP, badP, Hnm.out, Hs1.out, Hb1.out, Hsc.out, Hs2.out, Hb2.out] at this
        exact this)
      have hs2l : s2.length ≤ 30000 := by rw [← Hs2.out, ← Hs1.out]; unfold restP at hrl; omega
      clear h0 HPs hrl
      go_wp2_with fail
      refine (Left_any b s br wr HR.out.1).mono ?_
      rintro e w2 ⟨rfl, rfl⟩
      go_wp2_with fail
      refine (RText_any b s br wr HR.out.1).mono ?_
      rw [Hnm.out]
      rintro e w2 ⟨rfl, m2, r2⟩
      rw [Hs1.out, Hb1.out] at r2
      have hbl : b < wr.heap.size := lt_of_cell HR.out.1.rest
      have hbs : b ≤ wr.heap.size := Nat.le_of_lt hbl
      have T2 : Hid (Rd w2 b s1 b1 ∧ RG w2 2 encN (.slice A2 dn c2) X ∧ Below b w w2) := Lib.hid ⟨r2, HR.out.2.1.later m2 (fun g hg e => by have := HR.out.2.2.1 g hg; omega), m2.below HR.out.2.2.2 hbs (fun i e => by rw [e]; exact Nat.le_refl _)⟩
      clear m2 r2
      go_wp2_with fail
      refine (RFour_any b s1 b1 w2 T2.out.1).mono ?_
      rw [Hsc.out]
      rintro e w3 ⟨rfl, m3, r3⟩
      rw [Hs2.out, Hb2.out] at r3
      have hb2 : b < w2.heap.size := lt_of_cell T2.out.1.rest
      have T3 : Hid (Rd w3 b s2 b2 ∧ RG w3 2 encN (.slice A2 dn c2) X ∧ Below b w w3) := Lib.hid ⟨r3, T2.out.2.1.later m3 (fun g hg e => by have := HR.out.2.2.1 g hg; omega), m3.below T2.out.2.2 (by omega) (fun i e => by rw [e]; exact Nat.le_refl _)⟩
      have hb3 : b < w3.heap.size := lt_of_cell r3.rest
      clear m3 r3 hb2 hbl hbs
      obtain ⟨W, HW⟩ : ∃ W, Hid (w3.alloc (.cells #[.string (str nm), .int .i64 (sc : Int)] 44) = W) := ⟨_, Lib.hid rfl⟩
      obtain ⟨p, Hp⟩ : ∃ p, Hid (w3.heap.size = p) := ⟨_, Lib.hid rfl⟩
      have hbW : Below w3.heap.size w3 W := by rw [← HW.out]; exact balloc (Below.refl _ _) _
      have hI : IsG W 2 encN (some ⟨p, 0, none⟩) 1 [(nm, (sc : Int))] := by rw [← HW.out, ← Hp.out]; exact n_one w3 (nm, (sc : Int)) _
      obtain ⟨v8, w8, hr8, r8, a8⟩ := appG nInf encN_ok (T3.out.2.1.below hbW) (c := 1) hI (by rw [Hdn.out]; omega) (by decide) 32
      have HR8 := Lib.hid hr8
      have F8 : Hid (Rd w8 b s2 b2 ∧ RG w8 2 encN v8 (X ++ [(nm, (sc : Int))]) ∧ (∀ g, blk v8 = some g → b < g) ∧ Below b w w8) := Lib.hid (by
        have hW := hbW.size
        refine ⟨(T3.out.1.below hbW).later a8.mod (fun e => by have := HR.out.2.2.1 b e; omega), r8, fun g e => ?_, a8.mod.below (T3.out.2.2.trans (hbW.mono (by omega))) (by omega) (fun i e => Nat.le_of_lt (HR.out.2.2.1 i e))⟩
        rcases a8.blk with e2 | ⟨g2, e2, h2⟩
        · exact HR.out.2.2.1 g (e2 ▸ e)
        · rw [e2] at e
          obtain rfl := Option.some.inj e
          omega)
      have hlen8 : Hid ((X ++ [(nm, (sc : Int))]).length = dn + 1) := Lib.hid (by rw [List.length_append, Hdn.out]; rfl)
      clear hbW hI hr8 r8 a8 hb3
      obtain ⟨A9, c9, rfl⟩ : ∃ A9 c9, v8 = .slice A9 (dn + 1) c9 := by
        obtain ⟨A9, c9, e⟩ := F8.out.2.1.shape
        exact ⟨A9, c9, by rw [e, hlen8.out]⟩
      have hls : 0 < s.length := by omega
      go_wp2_with (first | (at_builtin; rw [HW.out, Hp.out]; refine wpList_append_run rfl (.tmp 13) (.tmp 19) 32 rfl (by exact HR8.out) ?_) | fail)
      go_roundw
      case rel => exact ⟨_, s2, b2, hs2l, HPs2, Lib.hid F8.out⟩
      case measure => simp [lenV]; omega
/-- An entry in a box of a call's own. -/
structure EntF (u : World) (q : Nat) (n : List UInt8) (x : Int) : Prop where
  c0 : u.cell? ⟨q, 0, none⟩ = some (.string (str n))
  c1 : u.cell? ⟨q, 1, none⟩ = some (.int .i64 x)
  free : u.frozen? ⟨q, 1, none⟩ = false
theorem EntF.later {S : Nat → Prop} {u u' : World} {q : Nat} {n : List UInt8} {x : Int} (h : EntF u q n x) (m : Mod S u u') (hs : ¬ S q) : EntF u' q n x :=
  ⟨(m.cell (p := ⟨q, 0, none⟩) (lt_of_cell h.c0) hs).trans h.c0, (m.cell (p := ⟨q, 1, none⟩) (lt_of_cell h.c1) hs).trans h.c1, (m.frozen (p := ⟨q, 1, none⟩) (lt_of_cell h.c1) hs).trans h.free⟩
theorem AR.lt {w : World} {c : Nat} {l : List UInt8} {br : Bool} (h : AR w c l br) : c < w.heap.size := by
  obtain ⟨_, _, h, _⟩ := h
  exact h.lt
set_option maxRecDepth 100000 in
set_option maxHeartbeats 8000000 in
theorem XReadE_any (s0 : List UInt8) (hs : s0.length ≤ 30000) (w : World) :
    Calls Tryd.prog 23 #[.string (str s0)] w fun e w' => ∃ (X : List Ent) (A : Option Addr) (n c : Nat) (E : Int), e = .returned (.tuple #[.slice A n c, .int .i64 E]) ∧ IsG w' 2 encN A n X ∧ n ≤ 30000 ∧ ReadsN s0 X E ∧ Below w.heap.size w w' := by
  obtain ⟨b, Hb⟩ : ∃ b, Hid (w.heap.size = b) := ⟨_, Lib.hid rfl⟩
  obtain ⟨w1, HW1⟩ : ∃ x, Hid (w.alloc (.cells #[.string (str s0), .int .i64 0, .bool false] 67) = x) := ⟨_, Lib.hid rfl⟩
  have T1 : Hid (AR w1 b s0 false ∧ Below b w w1) := Lib.hid (by
    have hB : Below b w w1 := by rw [← HW1.out, ← Hb.out]; exact balloc (Below.refl _ w) _
    refine ⟨?_, hB⟩
    rw [← HW1.out, ← Hb.out]
    refine ⟨s0, 0, ⟨?_, ?_, ?_, ?_, ?_⟩, by omega, by omega, rfl⟩ <;> go_simp <;> rfl)
  go_enter Tryd.func23, Tryd.ntmps23
  go_wp2_with fail
  rw [HW1.out, Hb.out]
  go_loopw [5] (fun v wr => ∃ (X : List Ent) (s : List UInt8) (br : Bool), s.length ≤ 30000 ∧ Hid (Par s0 X s br) ∧ Hid (AR wr b s br ∧ RG wr 2 encN v X ∧ (∀ g, blk v = some g → b < g) ∧ Below b w wr)) (fun v _ => s0.length - lenV v)
  case atStart => exact ⟨[], s0, false, hs, Lib.hid (Par.first s0), Lib.hid ⟨T1.out.1, RG.nil _ _ _, (fun g e => by cases e), T1.out.2⟩⟩
  case round =>
    obtain ⟨X, s, br, hsl, HP, HR⟩ := hrel
    obtain ⟨A2, c2, rfl⟩ := HR.out.2.1.shape
    obtain ⟨dn, Hdn⟩ : ∃ dn, Hid (X.length = dn) := ⟨_, Lib.hid rfl⟩
    have hdl : dn + s.length ≤ s0.length := by rw [← Hdn.out]; exact HP.out.len
    rw [Hdn.out] at HR ⊢
    by_cases h0 : s = []
    · subst h0
      have hl0 : (([] : List UInt8).length : Int) = 0 := rfl
      obtain ⟨R, HRt⟩ : ∃ r, Hid (rightN X = r) := ⟨_, Lib.hid rfl⟩
      go_wp2_with fail
      refine (ALeft_any b [] br wr HR.out.1).mono ?_
      rintro e w2 ⟨rfl, b2⟩
      rw [hl0]
      have T2 : Hid (AR w2 b [] br ∧ IsG w2 2 encN A2 dn X ∧ Below w.heap.size w w2) := Lib.hid ⟨HR.out.1.later (Mod.of_below (S := fun _ => False) b2) id, (HR.out.2.1.is encN_ok).1.below b2, by rw [Hb.out]; exact HR.out.2.2.2.trans (b2.mono (Nat.le_of_lt HR.out.1.lt))⟩
      clear b2 hl0
      go_wp2_with fail
      refine (XRight_any A2 dn c2 X w2 T2.out.2.1).mono ?_
      rw [HRt.out]
      rintro e w3 ⟨rfl, b3⟩
      have T3 : Hid (AR w3 b [] br ∧ IsG w3 2 encN A2 dn X ∧ Below w.heap.size w w3) := Lib.hid ⟨T2.out.1.later (Mod.of_below (S := fun _ => False) b3) id, T2.out.2.1.below b3, bnext T2.out.2.2 b3⟩
      clear b3
      go_wp2_with fail
      refine (AEnd_any b [] br w3 T3.out.1).mono ?_
      rintro e w4 ⟨rfl, b4⟩
      have T4 : Hid (IsG w4 2 encN A2 dn X ∧ Below w.heap.size w w4) := Lib.hid ⟨T3.out.2.1.below b4, bnext T3.out.2.2 b4⟩
      clear b4
      cases br with
      | true =>
        have HF := Lib.hid (ReadsN.mk (s := s0) (X := []) (e := 10) (.inr ⟨rfl, rfl, fun Y hY he => by
          obtain ⟨h1, _⟩ := HP.out.of_end hY he
          cases h1⟩))
        have hE : endE [] true = 10 := rfl
        rw [hE]
        clear hE
        go_wp2_with fail
        go_ret2
        exact ⟨[], none, 0, 0, 10, rfl, ⟨rfl, Nat.zero_le _, fun h => absurd h (Nat.lt_irrefl _)⟩, Nat.zero_le _, HF.out, T4.out.2⟩
      | false =>
        have hE : endE [] false = 0 := rfl
        rw [hE]
        clear hE
        cases R with
        | false =>
          have HF := Lib.hid (HP.out.no (fun e => by rw [HRt.out] at e; cases e.1))
          go_wp2_with fail
          go_ret2
          exact ⟨[], none, 0, 0, 10, rfl, ⟨rfl, Nat.zero_le _, fun h => absurd h (Nat.lt_irrefl _)⟩, Nat.zero_le _, HF.out, T4.out.2⟩
        | true =>
          have HF := Lib.hid (Par.yes (s0 := s0) HRt.out (by have := HP.out.ok rfl; rwa [List.append_nil] at this))
          go_wp2_with fail
          go_ret2
          exact ⟨X, A2, dn, c2, 0, rfl, T4.out.1, by omega, HF.out, T4.out.2⟩
    · have hl0 : (0 : Int) < (s.length : Int) := by have := List.length_pos_iff.2 h0; omega
      have HPs := Lib.hid (HP.out.step h0)
      have hrl := restP_lt h0
      obtain ⟨nm, Hnm⟩ : ∃ t, Hid (rtextS s = t) := ⟨_, Lib.hid rfl⟩
      obtain ⟨s1, Hs1⟩ : ∃ t, Hid (rtextL s = t) := ⟨_, Lib.hid rfl⟩
      obtain ⟨b1, Hb1⟩ : ∃ t, Hid (rtextB s br = t) := ⟨_, Lib.hid rfl⟩
      obtain ⟨sc, Hsc⟩ : ∃ t : Nat, Hid (num (takeS s1 4) = t) := ⟨_, Lib.hid rfl⟩
      obtain ⟨s2, Hs2⟩ : ∃ t, Hid (takeL s1 4 = t) := ⟨_, Lib.hid rfl⟩
      obtain ⟨b2, Hb2⟩ : ∃ t, Hid (takeB s1 b1 4 = t) := ⟨_, Lib.hid rfl⟩
      have HPs2 : Hid (Par s0 (X ++ [(nm, (sc : Int))]) s2 b2) := Lib.hid (by
        have := HPs.out
        rw [entP, restP, badP, Hnm.out, Hs1.out, Hb1.out, Hsc.out, Hs2.out, Hb2.out] at this
        exact this)
      have hs2l : s2.length ≤ 30000 := by rw [← Hs2.out, ← Hs1.out]; unfold restP at hrl; omega
      clear h0 HPs hrl
      go_wp2_with fail
      refine (ALeft_any b s br wr HR.out.1).mono ?_
      rintro e w1 ⟨rfl, bl⟩
      have hbl := HR.out.1.lt
      have R1 : Hid (AR w1 b s br ∧ RG w1 2 encN (.slice A2 dn c2) X ∧ Below b w w1) := Lib.hid ⟨HR.out.1.later (Mod.of_below (S := fun _ => False) bl) id, HR.out.2.1.below bl, HR.out.2.2.2.trans (bl.mono (Nat.le_of_lt hbl))⟩
      clear bl hbl
      go_wp2_with fail
      refine (AText_any b s br w1 R1.out.1).mono ?_
      rw [Hnm.out]
      rintro e w2 ⟨rfl, m2, r2⟩
      rw [Hs1.out, Hb1.out] at r2
      have hbl := R1.out.1.lt
      have T2 : Hid (AR w2 b s1 b1 ∧ RG w2 2 encN (.slice A2 dn c2) X ∧ Below b w w2) := Lib.hid ⟨r2, R1.out.2.1.later m2 (fun g hg e => by have := HR.out.2.2.1 g hg; omega), m2.below R1.out.2.2 (Nat.le_of_lt hbl) (fun i e => by rw [e]; exact Nat.le_refl _)⟩
      clear m2 r2 hbl
      obtain ⟨q, Hq⟩ : ∃ q, Hid (w2.heap.size = q) := ⟨_, Lib.hid rfl⟩
      obtain ⟨V, HV⟩ : ∃ u, Hid (w2.alloc (.cells #[.string (str nm), .int .i64 0] 44) = u) := ⟨_, Lib.hid rfl⟩
      have TV : Hid (EntF V q nm 0 ∧ AR V b s1 b1 ∧ RG V 2 encN (.slice A2 dn c2) X ∧ Below b w V ∧ b < q) := Lib.hid (by
        have hB : Below w2.heap.size w2 V := by rw [← HV.out]; exact balloc (Below.refl _ w2) _
        have hbl := T2.out.1.lt
        refine ⟨?_, T2.out.1.later (Mod.of_below (S := fun _ => False) hB) id, T2.out.2.1.below hB, T2.out.2.2.trans (hB.mono (Nat.le_of_lt hbl)), by rw [← Hq.out]; exact hbl⟩
        rw [← HV.out, ← Hq.out]
        refine ⟨?_, ?_, ?_⟩ <;> go_simp)
      have hbq := TV.out.2.2.2.2
      go_wp2_with fail
      rw [HV.out, Hq.out]
      refine (AFour_any b s1 b1 V TV.out.2.1).mono ?_
      rw [Hsc.out]
      rintro e w3 ⟨rfl, m3, r3⟩
      rw [Hs2.out, Hb2.out] at r3
      have hbl := TV.out.2.1.lt
      have T3 : Hid (EntF w3 q nm 0 ∧ AR w3 b s2 b2 ∧ RG w3 2 encN (.slice A2 dn c2) X ∧ Below b w w3) := Lib.hid ⟨TV.out.1.later m3 (by omega), r3, TV.out.2.2.1.later m3 (fun g hg e => by have := HR.out.2.2.1 g hg; omega), m3.below TV.out.2.2.2.1 (Nat.le_of_lt hbl) (fun i e => by rw [e]; exact Nat.le_refl _)⟩
      have hqv : ∀ g, blk (.slice A2 dn c2) = some g → g ≠ q := fun g hg e => by
        have := T2.out.2.1.lt hg
        have := Hq.out
        omega
      clear m3 r3 hbl
      obtain ⟨w4, HW4⟩ : ∃ u, Hid (w3.setCell ⟨q, 1, none⟩ (.int .i64 (sc : Int)) = u) := ⟨_, Lib.hid rfl⟩
      have T4 : Hid (EntF w4 q nm (sc : Int) ∧ AR w4 b s2 b2 ∧ RG w4 2 encN (.slice A2 dn c2) X ∧ Below b w w4) := Lib.hid (by
        have m4 : Mod (· = q) w3 w4 := by rw [← HW4.out]; exact (Mod.refl _ w3).set1 _
        refine ⟨?_, T3.out.2.1.later m4 (by omega), T3.out.2.2.1.later m4 (fun g hg e => hqv g hg e), m4.below T3.out.2.2.2 (Nat.le_of_lt T3.out.2.1.lt) (fun i e => by omega)⟩
        rw [← HW4.out]
        exact ⟨set_other (by simp) T3.out.1.c0, set_same T3.out.1.c1, set_frozen T3.out.1.free⟩)
      obtain ⟨k0, k1, k2⟩ := T3.out.1
      obtain ⟨g0, g1, _⟩ := T4.out.1
      rw [← HW4.out] at g0 g1
      obtain ⟨W, HW⟩ : ∃ W, Hid (w4.alloc (.cells #[.string (str nm), .int .i64 (sc : Int)] 44) = W) := ⟨_, Lib.hid rfl⟩
      obtain ⟨p, Hp⟩ : ∃ p, Hid (w3.heap.size = p) := ⟨_, Lib.hid rfl⟩
      have Hp4 : Hid (w4.heap.size = p) := Lib.hid (by rw [← HW4.out, ← Hp.out]; simp)
      have hbW : Below w4.heap.size w4 W := by rw [← HW.out]; exact balloc (Below.refl _ _) _
      have hI : IsG W 2 encN (some ⟨p, 0, none⟩) 1 [(nm, (sc : Int))] := by rw [← HW.out, ← Hp4.out]; exact n_one w4 (nm, (sc : Int)) _
      obtain ⟨v8, w8, hr8, r8, a8⟩ := appG nInf encN_ok (T4.out.2.2.1.below hbW) (c := 1) hI (by rw [Hdn.out]; omega) (by decide) 32
      have HR8 := Lib.hid hr8
      have F8 : Hid (AR w8 b s2 b2 ∧ RG w8 2 encN v8 (X ++ [(nm, (sc : Int))]) ∧ (∀ g, blk v8 = some g → b < g) ∧ Below b w w8) := Lib.hid (by
        have hW := hbW.size
        have hb4 := T4.out.2.1.lt
        refine ⟨(T4.out.2.1.later (Mod.of_below (S := fun _ => False) hbW) id).later a8.mod (fun e => by have := HR.out.2.2.1 b e; omega), r8, fun g e => ?_, a8.mod.below (T4.out.2.2.2.trans (hbW.mono (by omega))) (by omega) (fun i e => Nat.le_of_lt (HR.out.2.2.1 i e))⟩
        rcases a8.blk with e2 | ⟨g2, e2, h2⟩
        · exact HR.out.2.2.1 g (e2 ▸ e)
        · rw [e2] at e
          obtain rfl := Option.some.inj e
          omega)
      have hlen8 : Hid ((X ++ [(nm, (sc : Int))]).length = dn + 1) := Lib.hid (by rw [List.length_append, Hdn.out]; rfl)
      clear hbW hI hr8 r8 a8 hqv hbq
      obtain ⟨A9, c9, rfl⟩ : ∃ A9 c9, v8 = .slice A9 (dn + 1) c9 := by
        obtain ⟨A9, c9, e⟩ := F8.out.2.1.shape
        exact ⟨A9, c9, by rw [e, hlen8.out]⟩
      have hls : 0 < s.length := by omega
      go_wp2_with (first | (at_builtin; rw [HW4.out, HW.out, Hp.out]; refine wpList_append_run rfl (.tmp 20) (.tmp 22) 32 rfl (by exact HR8.out) ?_) | fail)
      go_roundw
      case rel => exact ⟨_, s2, b2, hs2l, HPs2, Lib.hid F8.out⟩
      case measure => simp [lenV]; omega
end Go.Proofs.YtnoidhfhnaemgaaDoor
