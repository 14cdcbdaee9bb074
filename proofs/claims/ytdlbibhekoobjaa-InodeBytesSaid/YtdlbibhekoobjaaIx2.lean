/- What the document reads of an inode's bytes, at this translation. -/
import Derived.Test.YtdlbibhekoobjaaIr2
import Derived.Test.YtdlbibhekoobjaaRq14
namespace Go.Proofs.Ytdlbibhekoobjaa
open Go.RowKit

/-- Where things lie in the document's loop. -/
structure XL (s : List UInt8) (w : World) (p q : Nat) (wr : World) (j : Nat) (A : Option Addr) (c : Nat) : Prop where
  z : InoF wr p .zero none 0 0
  x : InoF wr q ⟨pk s, pl s, ps s, []⟩ A j c
  d : RG wr 1 encI (.slice A j c) (nums4 j (pE s))
  r : AR wr (p + 1) (left4 j (pE s)) (brk s j)
  n : ∀ g, blk (.slice A j c) = some g → p < g ∧ g ≠ q ∧ g ≠ p + 1
  b : Below p w wr
  k : ∀ k, k < j → left4 k (pE s) ≠ []
theorem XL.below {s : List UInt8} {w : World} {p q : Nat} {wr w' : World} {j : Nat} {A : Option Addr} {c : Nat} (h : XL s w p q wr j A c) (b : Below wr.heap.size wr w') : XL s w p q w' j A c :=
  ⟨h.z.below b, h.x.below b, h.d.below b, h.r.later (Mod.of_below (S := fun _ => False) b) id, h.n, h.b.trans (b.mono (Nat.le_of_lt h.z.ino.lt)), h.k⟩
abbrev Cxl (W : World) (c : Nat) (v : Value) : World → Prop := fun u => Mod (fun g => g = c ∨ blk v = some g) W u
instance (W : World) (c : Nat) (v : Value) : Nonempty (In (Cxl W c v)) := ⟨⟨W, Mod.refl _ _⟩⟩
set_option maxRecDepth 100000 in
set_option maxHeartbeats 4000000 in
theorem XIRead_any (s : List UInt8) (hs : s.length ≤ 1000000) (w : World) :
    Calls Try.prog 19 #[.string (str s)] w fun e w' => ∃ (X : Ino) (A : Option Addr) (n c : Nat) (E : Int), e = .returned (.tuple #[inoV X A n c, .int .i64 E]) ∧ IsG w' 1 encI A n X.d ∧ n ≤ 13 ∧ Reads s X E ∧ Below w.heap.size w w' := by
  obtain ⟨p, Hp⟩ : ∃ p, Hid (w.heap.size = p) := ⟨_, Lib.hid rfl⟩
  by_cases h4 : 4 ≤ s.length ∧ s.take 4 = signI
  · obtain ⟨h4, hsg⟩ := h4
    have H4 := Lib.hid h4
    have Hsg := Lib.hid hsg
    have hs3 : (s.take 4 == [76, 71, 73, 49]) = true := by rw [hsg]; rfl
    have hl4 : ¬ (s.length : Int) < 4 := by omega
    have HpB : Hid (s.drop 4 = pB s) := Lib.hid (by rw [pB, takeL, if_pos h4])
    clear hsg
    go_enter Try.func19, Try.ntmps19
    go_wp2_with fail
    obtain ⟨W, HW⟩ : ∃ x, Hid ((w.alloc (.cells #[.int .i64 0, .int .i64 0, .int .i64 0, .slice none 0 0] 24)).alloc (.cells #[.string (str (s.drop 4)), .int .i64 0, .bool false] 64) = x) := ⟨_, Lib.hid rfl⟩
    have Z0 : Hid (InoF W p .zero none 0 0) := Lib.hid (by rw [← HW.out, ← Hp.out]; exact (InoF.new w .zero none 0 0 _).below (balloc (Below.refl _ _) _))
    have R0 : Hid (AR W (p + 1) (pB s) false) := Lib.hid (by
      rw [← HpB.out, ← HW.out, ← Hp.out]
      refine ⟨s.drop 4, 0, ⟨?_, ?_, ?_, ?_, ?_⟩, by omega, by simp; omega, rfl⟩ <;> go_simp <;> rfl)
    have B0 : Hid (Below p w W) := Lib.hid (by rw [← HW.out, ← Hp.out]; exact balloc (balloc (Below.refl _ w) _) _)
    rw [HW.out, Hp.out]
    refine (ATwo_any _ _ _ _ R0.out).mono ?_
    rw [show (((textN (pB s) : Nat) : Int)) = pk s from rfl]
    rintro e w1 ⟨rfl, hm, hr⟩
    have R1 : Hid (AR w1 (p + 1) (pC s) (takeB (pB s) false 2)) := Lib.hid hr
    have Z1 := Lib.hid (Z0.out.later hm (by omega))
    have B1 : Hid (Below p w w1) := Lib.hid (hm.below B0.out (by have := Z0.out.ino.lt; omega) (by rintro i rfl; omega))
    have hp1 : p + 1 < w1.heap.size := by
      obtain ⟨_, _, h, _⟩ := R1.out
      exact h.lt
    clear hm hr
    go_wp2_with fail
    obtain ⟨q, Hq⟩ : ∃ q, Hid (w1.heap.size = q) := ⟨_, Lib.hid rfl⟩
    obtain ⟨W2, HW2⟩ : ∃ z, Hid (w1.alloc (.cells #[.int .i64 (pk s), .int .i64 0, .int .i64 0, .slice none 0 0] 24) = z) := ⟨_, Lib.hid rfl⟩
    have hb2 : Below w1.heap.size w1 W2 := by rw [← HW2.out]; exact balloc (Below.refl _ w1) _
    have Q2 : Hid (InoF W2 q ⟨pk s, 0, 0, []⟩ none 0 0) := Lib.hid (by rw [← HW2.out, ← Hq.out]; exact InoF.new w1 ⟨pk s, 0, 0, []⟩ none 0 0 _)
    have R2 : Hid (AR W2 (p + 1) (pC s) (takeB (pB s) false 2)) := Lib.hid (R1.out.later (Mod.of_below (S := fun _ => False) hb2) id)
    have Z2 := Lib.hid (Z1.out.below hb2)
    have B2 : Hid (Below p w W2) := Lib.hid (B1.out.trans (hb2.mono (by omega)))
    have hqp : q ≠ p + 1 ∧ q ≠ p := by have := Hq.out; omega
    obtain ⟨hqp, hqp2⟩ := hqp
    have hpq : p < q := by have := Hq.out; omega
    clear hb2
    rw [HW2.out, Hq.out]
    refine (ATwo_any _ _ _ _ R2.out).mono ?_
    rw [show (((textN (pC s) : Nat) : Int)) = pl s from rfl]
    rintro e w3 ⟨rfl, hm, hr⟩
    have R3 : Hid (AR w3 (p + 1) (pD s) (takeB (pC s) (takeB (pB s) false 2) 2)) := Lib.hid hr
    have Z3 := Lib.hid (Z2.out.later hm (by omega))
    have Q3 := Lib.hid (Q2.out.later hm hqp)
    have B3 : Hid (Below p w w3) := Lib.hid (hm.below B2.out (by have := Z2.out.ino.lt; omega) (by rintro i rfl; omega))
    clear hm hr
    obtain ⟨W4, HW4⟩ : ∃ z, Hid (w3.setCell ⟨q, 1, none⟩ (.int .i64 (pl s)) = z) := ⟨_, Lib.hid rfl⟩
    have M4 : Hid (Mod (· = q) w3 W4) := Lib.hid (by rw [← HW4.out]; exact (Mod.refl _ w3).set1 _)
    have Q4 : Hid (InoF W4 q ⟨pk s, pl s, 0, []⟩ none 0 0) := Lib.hid (by
      rw [← HW4.out]
      exact ⟨⟨set_other (by simp) Q3.out.ino.c0, set_same Q3.out.ino.c1, set_other (by simp) Q3.out.ino.c2, set_other (by simp) Q3.out.ino.c3⟩, fun j hj => set_frozen (Q3.out.free j hj)⟩)
    have R4 := Lib.hid (R3.out.later M4.out (fun e => hqp e.symm))
    have Z4 := Lib.hid (Z3.out.later M4.out (fun e => hqp2 e.symm))
    have B4 : Hid (Below p w W4) := Lib.hid (M4.out.below B3.out (by have := Z3.out.ino.lt; omega) (by rintro i rfl; omega))
    have c1 := Q3.out.ino.c1
    have f1 := Q3.out.free 1 (by omega)
    have ltq := Q3.out.ino.lt
    have hW4 := HW4.out
    go_wp2_with fail
    refine (AFour_any _ _ _ _ R4.out).mono ?_
    rw [show (((num (takeS (pD s) 4) : Nat) : Int)) = ps s from rfl]
    rintro e w5 ⟨rfl, hm, hr⟩
    have R5 : Hid (AR w5 (p + 1) (pE s) (brk s 0)) := Lib.hid hr
    have Z5 := Lib.hid (Z4.out.later hm (by omega))
    have Q5 := Lib.hid (Q4.out.later hm hqp)
    have B5 : Hid (Below p w w5) := Lib.hid (hm.below B4.out (by have := Z4.out.ino.lt; omega) (by rintro i rfl; omega))
    clear hm hr c1 f1 ltq hW4
    obtain ⟨W6, HW6⟩ : ∃ z, Hid (w5.setCell ⟨q, 2, none⟩ (.int .i64 (ps s)) = z) := ⟨_, Lib.hid rfl⟩
    have M6 : Hid (Mod (· = q) w5 W6) := Lib.hid (by rw [← HW6.out]; exact (Mod.refl _ w5).set1 _)
    have Q6 : Hid (InoF W6 q ⟨pk s, pl s, ps s, []⟩ none 0 0) := Lib.hid (by
      rw [← HW6.out]
      exact ⟨⟨set_other (by simp) Q5.out.ino.c0, set_other (by simp) Q5.out.ino.c1, set_same Q5.out.ino.c2, set_other (by simp) Q5.out.ino.c3⟩, fun j hj => set_frozen (Q5.out.free j hj)⟩)
    have L6 : Hid (XL s w p q W6 0 none 0) := Lib.hid ⟨Z5.out.later M6.out (fun e => hqp2 e.symm), Q6.out, RG.nil _ _ _, R5.out.later M6.out (fun e => hqp e.symm), fun g hg => (by cases hg),
      M6.out.below B5.out (by have := Z5.out.ino.lt; omega) (by rintro i rfl; omega), fun k hk => by omega⟩
    have c2 := Q5.out.ino.c2
    have f2 := Q5.out.free 2 (by omega)
    have ltq := Q5.out.ino.lt
    have hW6 := HW6.out
    go_upto_block 0 with fail
    clear c2 f2 ltq hW6
    go_cut [6] (fun v wx => ∃ (j : Nat) (A : Option Addr) (c : Nat), Hid (j ≤ 13) ∧ Hid (XL s w p q wx j A c) ∧ Hid (j = 13 ∨ left4 j (pE s) = []))
    case first =>
      go_wp2_with fail
      go_loopw [6] (fun i wr => ∃ (j : Nat) (A : Option Addr) (c : Nat), j ≤ 13 ∧ i = .int .i64 (j : Int) ∧ Hid (XL s w p q wr j A c)) (fun i _ => 13 - (intOf i).toNat)
      case atStart => exact ⟨0, none, 0, by omega, rfl, L6⟩
      case round =>
        obtain ⟨j, A, c, hj, rfl, HL⟩ := hrel
        by_cases hlt : j < 13
        · have hltI : (j : Int) < 13 := by omega
          go_wp2_with fail
          refine (ALeft_any _ _ _ _ HL.out.r).mono ?_
          obtain ⟨l, Hl⟩ : ∃ l, Hid (left4 j (pE s) = l) := ⟨_, Lib.hid rfl⟩
          rw [Hl.out]
          rintro e w7 ⟨rfl, hb⟩
          have L7 := Lib.hid (HL.out.below hb)
          clear hb
          by_cases h0 : l.length = 0
          · have hl0 : ¬ (0 : Int) < (l.length : Int) := by omega
            have Hex : Hid (j = 13 ∨ left4 j (pE s) = []) := Lib.hid (.inr (by rw [Hl.out]; exact List.eq_nil_of_length_eq_zero h0))
            clear h0
            go_wp2_with fail
            go_meet
            case rel => exact ⟨j, A, c, Lib.hid hj, L7, Hex⟩
          · have hl0 : (0 : Int) < (l.length : Int) := by omega
            have Hne : Hid (left4 j (pE s) ≠ []) := Lib.hid (by rw [Hl.out]; intro e; rw [e] at h0; exact h0 rfl)
            have q0 : ∀ y : In (Cxl w7 (p + 1) (.slice A j c)), y.u.cell? ⟨q, 3, none⟩ = some (.slice A j c) := fun y => (y.is.cell (p := ⟨q, 3, none⟩) L7.out.x.ino.lt (fun e => by
              rcases e with e | e
              · exact hqp e
              · exact (L7.out.n q e).2.1 rfl)).trans L7.out.x.ino.c3
            clear h0
            go_wp2_with fail
            refine wp_region_mix (by kernel_rfl) (Cls (Cxl w7 (p + 1) (.slice A j c))) [(0, 0), (1, 0), (2, 0), (3, 1), (4, 1), (5, 1), (6, 0), (7, 2)] (by kernel_rfl) (cls (Mod.refl _ w7).drew) ?_
            repeat (refine mix0 rfl (fun K hK => ?_); go_simp; refine hK _ ?_; clear hK K)
            refine mix1 rfl (fun K hK => ?_)
            go_simp
            have hdr : Below w7.heap.size w7 w7.drew := (Below.refl _ w7).drew
            refine (AFour_any _ _ _ _ (L7.out.below hdr).r).mono ?_
            obtain ⟨z, Hz⟩ : ∃ z, Hid (num (takeS (left4 j (pE s)) 4) = z) := ⟨_, Lib.hid rfl⟩
            have Hnx : Hid (nums4 (j + 1) (pE s) = nums4 j (pE s) ++ [(z : Int)]) := Lib.hid (by rw [nums4, Hz.out])
            rw [Hz.out]
            rintro e w8 ⟨rfl, hm, hr⟩
            have M8 : Hid (Mod (· = p + 1) w7 w8) := Lib.hid (((Mod.refl (· = p + 1) w7).drew).trans hm)
            have R8 : Hid (AR w8 (p + 1) (left4 (j + 1) (pE s)) (brk s (j + 1))) := Lib.hid hr
            have D8 : Hid (RG w8 1 encI (.slice A j c) (nums4 j (pE s))) := Lib.hid (L7.out.d.later M8.out (fun g hg e => (L7.out.n g hg).2.2 e))
            clear hm hr hdr
            refine ⟨_, rfl, hK _ _ (cls (M8.out.mono (fun k _ e => .inl e))) ?_⟩
            clear hK K
            refine mix1 rfl (fun K hK => ?_)
            go_simp
            obtain ⟨W9, HW9⟩ : ∃ y, Hid (w8.alloc (.cells #[.int .i64 (z : Int)] 3) = y) := ⟨_, Lib.hid rfl⟩
            have B9 : Hid (Below w8.heap.size w8 W9) := Lib.hid (by rw [← HW9.out]; exact balloc (Below.refl _ w8) _)
            obtain ⟨q9, Hq9⟩ : ∃ y, Hid (w8.heap.size = y) := ⟨_, Lib.hid rfl⟩
            have G9 : Hid (IsG W9 1 encI (some ⟨q9, 0, none⟩) 1 [(z : Int)]) := Lib.hid (by rw [← HW9.out, ← Hq9.out]; exact in_one w8 (z : Int) _)
            have M9 : Hid (Mod (· = p + 1) w7 W9) := Lib.hid (M8.out.trans (Mod.of_below B9.out))
            rw [HW9.out, Hq9.out]
            refine hK _ _ (cls (M9.out.mono (fun k _ e => .inl e))) ?_
            clear hK K
            obtain ⟨T6, w10, hr6, r6, a6⟩ := appG inInf encI_ok (D8.out.below B9.out) (c := 1) G9.out (by rw [nums4_length]; omega) (by decide) 22
            obtain ⟨A6, c6, he6⟩ := r6.shape
            rw [List.length_append, List.length_singleton, nums4_length] at he6
            subst he6
            have Hr6 := Lib.hid hr6
            have M10 : Hid (Mod (fun g => g = p + 1 ∨ blk (.slice A j c) = some g) w7 w10) := Lib.hid ((M9.out.mono (fun k _ e => .inl e)).trans (a6.mod.mono (fun k _ e => .inr e)))
            have N10 : Hid (∀ g, blk (.slice A6 (j + 1) c6) = some g → p < g ∧ g ≠ q ∧ g ≠ p + 1) := Lib.hid (fun g hg => by
              rcases a6.blk with e | ⟨g', e, h'⟩
              · exact L7.out.n g (e ▸ hg)
              · rw [e] at hg; injection hg with hg
                have h1 := M9.out.size
                have h2 := L7.out.x.ino.lt
                have h3 := L7.out.z.ino.lt
                have h4 : p + 1 < w7.heap.size := by
                  obtain ⟨_, _, h, _⟩ := L7.out.r
                  exact h.lt
                exact ⟨by omega, by omega, by omega⟩)
            have X10 : Hid (InoF w10 q ⟨pk s, pl s, ps s, []⟩ A j c) := Lib.hid (L7.out.x.later M10.out (fun e => by
              rcases e with e | e
              · exact hqp e
              · exact (L7.out.n q e).2.1 rfl))
            have R10 : Hid (AR w10 (p + 1) (left4 (j + 1) (pE s)) (brk s (j + 1))) := Lib.hid ((R8.out.later (Mod.of_below (S := fun _ => False) B9.out) id).later a6.mod (fun e => (L7.out.n _ e).2.2 rfl))
            have HLn : Hid (XL s w p q (w10.setCell ⟨q, 3, none⟩ (.slice A6 (j + 1) c6)) (j + 1) A6 c6) := Lib.hid
              ⟨(L7.out.z.later M10.out (fun e => by
                  rcases e with e | e
                  · omega
                  · have := (L7.out.n p e).1; omega)).later (S := (· = q)) ((Mod.refl _ w10).set1 _) (fun e => hqp2 e.symm),
               ⟨⟨set_other (by simp) X10.out.ino.c0, set_other (by simp) X10.out.ino.c1, set_other (by simp) X10.out.ino.c2, set_same X10.out.ino.c3⟩, fun i hi => set_frozen (X10.out.free i hi)⟩,
               by rw [Hnx.out]; exact r6.later (S := (· = q)) ((Mod.refl _ w10).set1 _) (fun g hg e => (N10.out g hg).2.1 e),
               R10.out.later (T := (· = q)) ((Mod.refl _ w10).set1 _) (fun e => hqp e.symm),
               N10.out,
               (Mod.below L7.out.b M10.out (Nat.le_of_lt L7.out.z.ino.lt) (fun g e => by
                  rcases e with e | e
                  · omega
                  · exact Nat.le_of_lt (L7.out.n g e).1)).setCell (Nat.le_of_lt hpq) _,
               fun k hk => by
                 by_cases e : k = j
                 · rw [e]; exact Hne.out
                 · exact L7.out.k k (by omega)⟩
            have c3 := X10.out.ino.c3
            have f3 := X10.out.free 3 (by omega)
            have ltq := X10.out.ino.lt
            refine mix_append rfl rfl (.tmp 39) (.tmp 42) 22 rfl (by exact Hr6.out) (cls M10.out) ?_
            clear hr6 r6 a6
            repeat (refine mix0 rfl (fun K hK => ?_); go_simp; refine hK _ ?_; clear hK K)
            refine mix2 rfl (fun K hK => ?_); go_simp; refine hK _ _ ?_; clear hK K
            refine mixEnd ?_
            clear q0 c3 f3 ltq
            go_wp2
            go_roundw
            case rel => exact ⟨j + 1, A6, c6, by omega, by go_num, HLn⟩
            case measure => simp [intOf]; omega
        · have hltI : ¬ (j : Int) < 13 := by omega
          have Hex : Hid (j = 13 ∨ left4 j (pE s) = []) := Lib.hid (.inl (by omega))
          go_wp2_with fail
          go_meet
          case rel => exact ⟨j, A, c, Lib.hid hj, HL, Hex⟩
    case rest =>
    obtain ⟨j, A, c, Hj, HL, Hex⟩ := hcut
    obtain ⟨Y, HY⟩ : ∃ Y, Hid (xI s j = Y) := ⟨_, Lib.hid rfl⟩
    obtain ⟨N, HN⟩ : ∃ N, Hid (endE (left4 j (pE s)) (brk s j) = N) := ⟨_, Lib.hid rfl⟩
    obtain ⟨E, HE⟩ : ∃ z, Hid (inoE Y = z) := ⟨_, Lib.hid rfl⟩
    have hxr := xreads H4.out Hsg.out Hex.out HL.out.k
    rw [HN.out, HY.out] at hxr
    have Hcase : Hid (((N != 0) = false ∧ (E != 0) = false ∧ Reads s Y 0) ∨ (((N != 0) = true ∨ ((N != 0) = false ∧ (E != 0) = true)) ∧ Reads s .zero 10)) := Lib.hid (by
      by_cases hN : N = 0
      · by_cases hk : inoB Y = true
        · have hE : E = 0 := by rw [← HE.out]; exact if_pos hk
          exact .inl ⟨by simp [hN], by simp [hE], hxr.1 ⟨hN, hk⟩⟩
        · have hE : E = 1 := by rw [← HE.out]; exact if_neg hk
          exact .inr ⟨.inr ⟨by simp [hN], by simp [hE]⟩, hxr.2 (fun h => hk h.2)⟩
      · exact .inr ⟨.inl (by simp [hN]), hxr.2 (fun h => hN h.1)⟩)
    clear hxr
    have Q1 : Hid (InoF wc q Y A j c) := Lib.hid (by
      have h := HL.out.x
      rw [← HY.out]
      exact ⟨⟨h.ino.c0, h.ino.c1, h.ino.c2, h.ino.c3⟩, h.free⟩)
    have G1 : Hid (IsG wc 1 encI A j Y.d) := Lib.hid (by
      have h := (HL.out.d.is encI_ok).1
      rw [← HY.out]; exact h)
    have Hws : Hid ((Lit.int .i64 Y.s).wf = true) := Lib.hid (by
      rw [← HY.out]
      have := ps_lt s
      show (Lit.int .i64 (ps s)).wf = true
      have e3 : IntKind.i64.max = 9223372036854775807 := by decide
      have e2 : IntKind.i64.min = -9223372036854775808 := by decide
      simp [Lit.wf, e2, e3]; omega)
    go_wp2_with fail
    refine (AEnd_any _ _ _ _ HL.out.r).mono ?_
    rw [HN.out]
    rintro e w8 ⟨rfl, hb⟩
    have Q8 := Lib.hid (Q1.out.below hb)
    have G8 := Lib.hid (G1.out.below hb)
    have L8 := Lib.hid (HL.out.below hb)
    clear hb
    have ltq := Q8.out.ino.lt
    obtain ⟨d0, d1, d2, d3⟩ := Q8.out.ino
    have ltp := L8.out.z.ino.lt
    obtain ⟨z0, z1, z2, z3⟩ := L8.out.z.ino
    have f0 := L8.out.z.free 0 (by omega)
    have f1 := L8.out.z.free 1 (by omega)
    have f2 := L8.out.z.free 2 (by omega)
    have f3 := L8.out.z.free 3 (by omega)
    by_cases hN : (N != 0) = true
    · have HR : Hid (Reads s .zero 10) := Lib.hid (by
        rcases Hcase.out with ⟨h, _⟩ | ⟨_, h⟩
        · rw [hN] at h; cases h
        · exact h)
      have B11 : Hid (∀ a b c d, Below w.heap.size w ((((w8.setCell ⟨p, 0, none⟩ a).setCell ⟨p, 1, none⟩ b).setCell ⟨p, 2, none⟩ c).setCell ⟨p, 3, none⟩ d)) := Lib.hid (fun a b c d => by
        rw [Hp.out]
        exact (((L8.out.b.setCell (Nat.le_refl _) _).setCell (Nat.le_refl _) _).setCell (Nat.le_refl _) _).setCell (Nat.le_refl _) _)
      go_wp2
      refine bodyPost_ret (v := .tuple #[inoV .zero none 0 0, .int .i64 10]) ?_ rfl ⟨.zero, none, 0, 0, 10, rfl, ⟨rfl, Nat.zero_le _, fun h => absurd h (Nat.lt_irrefl _)⟩, by omega, HR.out, B11.out _ _ _ _⟩
      rw [results_cell_tmp rfl]
      go_simp
      all_goals first | rfl | ((repeat' apply And.intro) <;> rfl)
    · have hN : (N != 0) = false := by simpa using hN
      go_wp2_with fail
      refine (XCheck_any Y A j c (by have := Hj.out; omega) Hws.out _ G8.out).mono ?_
      rw [HE.out]
      rintro e w10 ⟨rfl, hb⟩
      have L10 := Lib.hid (L8.out.below hb)
      have Q10 := Lib.hid (Q8.out.below hb)
      have G10 := Lib.hid (G8.out.below hb)
      clear hb ltq d0 d1 d2 d3 ltp z0 z1 z2 z3 f0 f1 f2 f3
      have ltq := Q10.out.ino.lt
      obtain ⟨d0, d1, d2, d3⟩ := Q10.out.ino
      have ltp := L10.out.z.ino.lt
      obtain ⟨z0, z1, z2, z3⟩ := L10.out.z.ino
      have f0 := L10.out.z.free 0 (by omega)
      have f1 := L10.out.z.free 1 (by omega)
      have f2 := L10.out.z.free 2 (by omega)
      have f3 := L10.out.z.free 3 (by omega)
      have B11 : Hid (∀ a b c d, Below w.heap.size w ((((w10.setCell ⟨p, 0, none⟩ a).setCell ⟨p, 1, none⟩ b).setCell ⟨p, 2, none⟩ c).setCell ⟨p, 3, none⟩ d)) := Lib.hid (fun a b c d => by
        rw [Hp.out]
        exact (((L10.out.b.setCell (Nat.le_refl _) _).setCell (Nat.le_refl _) _).setCell (Nat.le_refl _) _).setCell (Nat.le_refl _) _)
      rcases Hcase.out with ⟨_, q1, hR⟩ | ⟨hc, hR⟩
      · have HR := Lib.hid hR
        have G11 : Hid (IsG ((((w10.setCell ⟨p, 0, none⟩ (.int .i64 Y.k)).setCell ⟨p, 1, none⟩ (.int .i64 Y.l)).setCell ⟨p, 2, none⟩ (.int .i64 Y.s)).setCell ⟨p, 3, none⟩ (.slice A j c)) 1 encI A j Y.d) := Lib.hid (G10.out.later (S := (· = p)) ((((Mod.refl _ w10).set1 _).set1 _).set1 _ |>.set1 _) (fun g off e h0 hg => by
          have := (L10.out.n g (by rw [e]; rfl)).1
          have hg' : g = p := hg
          omega))
        clear hR
        go_wp2
        refine bodyPost_ret (v := .tuple #[inoV Y A j c, .int .i64 0]) ?_ rfl ⟨Y, A, j, c, 0, rfl, G11.out, Hj.out, HR.out, B11.out _ _ _ _⟩
        rw [results_cell_tmp rfl]
        go_simp
        all_goals first | rfl | ((repeat' apply And.intro) <;> rfl)
      · have q1 : (E != 0) = true := by
          rcases hc with h | h
          · rw [hN] at h; cases h
          · exact h.2
        have HR := Lib.hid hR
        clear hR hc
        go_wp2
        refine bodyPost_ret (v := .tuple #[inoV .zero none 0 0, .int .i64 10]) ?_ rfl ⟨.zero, none, 0, 0, 10, rfl, ⟨rfl, Nat.zero_le _, fun h => absurd h (Nat.lt_irrefl _)⟩, by omega, HR.out, B11.out _ _ _ _⟩
        rw [results_cell_tmp rfl]
        go_simp
        all_goals first | rfl | ((repeat' apply And.intro) <;> rfl)
  · have HR : Hid (Reads s .zero 10) := Lib.hid ⟨.inr ⟨rfl, rfl, fun Y hY e => h4 (by
      rw [← e]
      refine ⟨by rw [inoS_length]; omega, ?_⟩
      simp [inoS, headI, signI])⟩⟩
    obtain ⟨W, HW⟩ : ∃ x, Hid (w.alloc (.cells #[.int .i64 0, .int .i64 0, .int .i64 0, .slice none 0 0] 24) = x) := ⟨_, Lib.hid rfl⟩
    have Z0 : Hid (InoF W p .zero none 0 0) := Lib.hid (by rw [← HW.out, ← Hp.out]; exact InoF.new w .zero none 0 0 _)
    have B0 : Hid (Below p w W) := Lib.hid (by rw [← HW.out, ← Hp.out]; exact balloc (Below.refl _ w) _)
    have HB : Hid (∀ a b c d, Below w.heap.size w ((((W.setCell ⟨p, 0, none⟩ a).setCell ⟨p, 1, none⟩ b).setCell ⟨p, 2, none⟩ c).setCell ⟨p, 3, none⟩ d)) := Lib.hid (fun a b c d => by
      rw [Hp.out]
      exact (((B0.out.setCell (Nat.le_refl _) _).setCell (Nat.le_refl _) _).setCell (Nat.le_refl _) _).setCell (Nat.le_refl _) _)
    have hW := HW.out
    have hp := Hp.out
    have ltp := Z0.out.ino.lt
    obtain ⟨z0, z1, z2, z3⟩ := Z0.out.ino
    have f0 := Z0.out.free 0 (by omega)
    have f1 := Z0.out.free 1 (by omega)
    have f2 := Z0.out.free 2 (by omega)
    have f3 := Z0.out.free 3 (by omega)
    by_cases hl : (s.length : Int) < 4
    · clear h4
      go_enter Try.func19, Try.ntmps19
      go_wp2
      refine bodyPost_ret (v := .tuple #[inoV .zero none 0 0, .int .i64 10]) ?_ rfl ⟨.zero, none, 0, 0, 10, rfl, ⟨rfl, Nat.zero_le _, fun h => absurd h (Nat.lt_irrefl _)⟩, by omega, HR.out, (by first | exact HB.out _ _ _ _ | (have h := HB.out; rw [Hp.out] at h; exact h _ _ _ _))⟩
      rw [results_cell_tmp rfl]
      go_simp
      all_goals first | rfl | ((repeat' apply And.intro) <;> rfl)
    · have hl4 : 4 ≤ s.length := by omega
      have hs3 : (s.take 4 == [76, 71, 73, 49]) = false := by
        have : s.take 4 ≠ signI := fun e => h4 ⟨hl4, e⟩
        simpa [signI] using this
      clear h4
      go_enter Try.func19, Try.ntmps19
      go_wp2
      refine bodyPost_ret (v := .tuple #[inoV .zero none 0 0, .int .i64 10]) ?_ rfl ⟨.zero, none, 0, 0, 10, rfl, ⟨rfl, Nat.zero_le _, fun h => absurd h (Nat.lt_irrefl _)⟩, by omega, HR.out, (by first | exact HB.out _ _ _ _ | (have h := HB.out; rw [Hp.out] at h; exact h _ _ _ _))⟩
      rw [results_cell_tmp rfl]
      go_simp
      all_goals first | rfl | ((repeat' apply And.intro) <;> rfl)
end Go.Proofs.Ytdlbibhekoobjaa
