/- The document's Scan of layer 11, at this translation; two rows that are the same. -/
import Derived.Test.YtgncmgchoogmpaaDoorRn11
import Derived.Test.YtgncmgchoogmpaaDoorJt11
import Derived.Laws.StructEq
namespace Go.Proofs.YtgncmgchoogmpaaDoor
open Go.RowKit

theorem AR.badc {w : World} {c : Nat} {l : List UInt8} {br : Bool} (h : AR w c l br) : w.cell? ⟨c, 2, none⟩ = some (.bool br) := by
  obtain ⟨S, n, hx, _⟩ := h
  exact hx.bad
theorem AR.lt' {w : World} {c : Nat} {l : List UInt8} {br : Bool} (h : AR w c l br) : c < w.heap.size := by
  obtain ⟨S, n, hx, _⟩ := h
  exact hx.lt
/-- Worlds in which but blocks from one on nothing has turned. -/
abbrev Cfb (W : World) (b : Nat) : World → Prop := fun u => Mod (fun k => b ≤ k) W u
instance (W : World) (b : Nat) : Nonempty (In (Cfb W b)) := ⟨⟨W, Mod.refl _ _⟩⟩
theorem chNeq (x : Int) (l : List UInt8) (w : World) : (binOp .neq 32 (.agg #[.int .i64 x, .string (str l)]) (.agg #[.int .i64 x, .string (str l)])).run Tryd.prog w = .ok (.bool false) w := by
  have hu : Tryd.prog.underlying 32 = some (.struct (Tryd.prog.fieldsOf 32)) := by kernel_rfl
  have hp : Tryd.prog.stoodInHeld 32 = false := by kernel_rfl
  rw [run_neq_struct, run_equalIn_agg _ _ _ _ _ hu hp]
  simp [Program.fieldsOf, Tryd.underlying32, Tryd.underlying3, Tryd.underlying9, go_sem, part]
set_option maxRecDepth 100000 in
set_option maxHeartbeats 1000000 in
theorem xSame_any (A B : Option Addr) (n c m d : Nat) (l : List Ch) (w : World) (h : IsG w 2 encC A n l) (k : IsG w 2 encC B m l) :
    Calls Tryd.prog 18 #[.slice A n c, .slice B m d] w fun e w' => e = .returned (.bool true) ∧ Below w.heap.size w w' := by
  obtain rfl : n = m := h.length.symm.trans k.length
  have Hh := Lib.hid h
  have Hk := Lib.hid k
  have hm := h.small
  have hb : ((n : Int) != (n : Int)) = false := by simp
  clear h k
  go_enter Tryd.func18, Tryd.ntmps18
  go_wp2
  go_loopw [5] (fun i wr => ∃ j : Nat, i = .int .i64 (j : Int) ∧ j ≤ n ∧ Hid (Below w.heap.size w wr)) (fun i _ => n - (intOf i).toNat)
  case atStart => exact ⟨0, rfl, Nat.zero_le _, Lib.hid (Below.refl _ _)⟩
  case round =>
    obtain ⟨j, rfl, hj, HB⟩ := hrel
    by_cases hlt : j < n
    · obtain ⟨g, off, rfl, hg, hc⟩ := (Hh.out.below HB.out).cells (by omega)
      obtain ⟨g2, off2, rfl, hg2, hc2⟩ := (Hk.out.below HB.out).cells (by omega)
      obtain ⟨x, hx⟩ : ∃ x, l[j]? = some x := ⟨_, List.getElem?_eq_getElem (by have := Hh.out.length; omega)⟩
      have a0 := hc j x 0 (.int .i64 x.1) hx rfl
      have a1 := hc j x 1 (.string (str x.2)) hx rfl
      have b0 := hc2 j x 0 (.int .i64 x.1) hx rfl
      have b1 := hc2 j x 1 (.string (str x.2)) hx rfl
      rw [Nat.add_zero] at a0 b0
      have hne := chNeq x.1 x.2
      have hjn : (j : Int) < (n : Int) := by omega
      clear hc hc2 hx
      go_wp2
      go_region
      clear hne
      go_wp2
      go_roundw
      case rel => exact ⟨j + 1, by go_num, by omega, Lib.hid HB.out.drew⟩
      case measure => simp [intOf]; omega
    · obtain rfl : j = n := by omega
      have hjn : ¬ (j : Int) < (j : Int) := by omega
      go_wp2
      go_ret
      exact ⟨rfl, HB.out⟩
set_option maxRecDepth 100000 in
set_option maxHeartbeats 4000000 in
theorem xScan_any (A : Option Addr) (n c : Nat) (rg : List (List UInt8)) (w : World) (h : IsStrs w A n rg) (hn : n ≤ 100000) (h600 : ∀ s ∈ rg, s.length ≤ 600) :
    Calls Tryd.prog 17 #[.slice A n c] w fun e w' => ∃ (s : Nat) (B : Option Addr) (m d : Nat) (l : List Ch) (ok : Bool), e = .returned (.tuple #[.int .i64 (s : Int), .slice B m d, .bool ok]) ∧ ScanR rg s l ok ∧ IsG w' 2 encC B m l ∧ Below w.heap.size w w' := by
  have hl := Lib.hid h.length
  by_cases h2 : n < 2
  · have h0 : Hid (ScanR rg 0 [] false) := Lib.hid (xscan_short (by rw [hl.out]; exact h2))
    have hr : (n : Int) < 2 := by omega
    go_enter Tryd.func17, Tryd.ntmps17
    go_wp2
    go_ret3
    exact ⟨0, none, 0, 0, [], false, rfl, h0.out, isG_nil _ _ _, Below.refl _ _⟩
  · have hr : ¬ (n : Int) < 2 := by omega
    have H := Lib.hid h
    have H6 := Lib.hid h600
    obtain ⟨g, off, rfl, hg, hcs⟩ := h.cellAt (by omega)
    have Hcs := Lib.hid hcs
    obtain ⟨s0, Hs0⟩ : ∃ x, Hid (rg.getD 0 [] = x) := ⟨_, Lib.hid rfl⟩
    obtain ⟨s1, Hs1⟩ : ∃ x, Hid (rg.getD 1 [] = x) := ⟨_, Lib.hid rfl⟩
    have c0 := hcs w (fun _ => False) (Mod.refl _ _) id 0 (by omega)
    rw [Nat.add_zero, Hs0.out] at c0
    have Hd := Lib.hid (done_doc s0)
    have HN : Hid ((xT1 s1 (xdoneOk s0) = false ∨ xT2 s1 (xdoneV s0) n = false ∨ xT3 rg = false) → ScanR rg 0 [] false) := Lib.hid (fun hh => xscan_no (d := xdoneV s0) (ok := xdoneOk s0) (by rw [Hs0.out]; exact Hd.out) (by rw [Hs1.out, hl.out]; exact hh))
    have HY : Hid (xT1 s1 (xdoneOk s0) = true → xT2 s1 (xdoneV s0) n = true → xT3 rg = true → ScanR rg (xsQ s1) (xsL rg) true) := Lib.hid (fun h1 h2 h3 => by
      have := xscan_yes (rg := rg) (d := xdoneV s0) (ok := xdoneOk s0) (by rw [Hs0.out]; exact Hd.out) (by rw [Hs1.out]; exact h1) (by rw [Hs1.out, hl.out]; exact h2) h3
      rw [Hs1.out] at this
      exact this)
    have h1n : (1 : Int) < (n : Int) := by omega
    have h0n : (0 : Int) < (n : Int) := by omega
    clear hcs h h600 Hd Hs0
    obtain ⟨d, HD⟩ : ∃ x, Hid (xdoneV s0 = x) := ⟨_, Lib.hid rfl⟩
    obtain ⟨ok, HO⟩ : ∃ x, Hid (xdoneOk s0 = x) := ⟨_, Lib.hid rfl⟩
    rw [HD.out, HO.out] at HN HY
    go_enter Tryd.func17, Tryd.ntmps17
    go_wp2_with fail
    refine (xDone_any _ _).mono ?_
    rw [HD.out, HO.out]
    rintro e w1 ⟨rfl, hb1⟩
    have B1 := Lib.hid hb1
    have c1 := Hcs.out w1 (fun _ => False) (Mod.of_below hb1) id 1 (by omega)
    rw [Hs1.out] at c1
    clear hb1 HD HO c0
    obtain ⟨xs, HXS⟩ : ∃ x, Hid (xopenS s1 = x) := ⟨_, Lib.hid rfl⟩
    obtain ⟨xo, HXO⟩ : ∃ x, Hid (xopenOk s1 = x) := ⟨_, Lib.hid rfl⟩
    have HT1 : Hid (xT1 s1 ok = (ok && (xo && (decide (14 ≤ xs.length) && (xs.take 4 == signD))))) := Lib.hid (by rw [xT1, HXS.out, HXO.out])
    have hx510 : xo = true → xs.length ≤ 510 := fun e => by rw [← HXS.out]; exact (xopen_is (HXO.out.trans e)).2.1
    go_wp2_with fail
    refine (XOpen_any _ _).mono ?_
    rw [HXS.out, HXO.out]
    rintro e w2 ⟨rfl, hb2⟩
    have B2 := Lib.hid (bnext B1.out hb2)
    clear hb2 c1 HXO
    cases ok with
    | false =>
      go_wp2
      go_ret3
      exact ⟨0, none, 0, 0, [], false, rfl, HN.out (.inl HT1.out), isG_nil _ _ _, B2.out⟩
    | true =>
      cases xo with
      | false =>
        go_wp2
        go_ret3
        exact ⟨0, none, 0, 0, [], false, rfl, HN.out (.inl HT1.out), isG_nil _ _ _, B2.out⟩
      | true =>
        have hx5 := hx510 rfl
        by_cases h14 : xs.length < 14
        · have h14I : (xs.length : Int) < 14 := by omega
          have hf : Hid (xT1 s1 true = false) := Lib.hid (by rw [HT1.out, show decide (14 ≤ xs.length) = false by simp; omega]; rfl)
          clear HT1
          go_wp2
          go_ret3
          exact ⟨0, none, 0, 0, [], false, rfl, HN.out (.inl hf.out), isG_nil _ _ _, B2.out⟩
        · have h14I : ¬ (xs.length : Int) < 14 := by omega
          have h4I : (4 : Int) ≤ (xs.length : Int) := by omega
          cases hsg : xs.take 4 == signD with
          | false =>
            have hf : Hid (xT1 s1 true = false) := Lib.hid (by rw [HT1.out, hsg]; simp)
            have hsg' : (xs.take 4 == [76, 71, 68, 49]) = false := hsg
            clear HT1
            go_wp2
            go_ret3
            exact ⟨0, none, 0, 0, [], false, rfl, HN.out (.inl hf.out), isG_nil _ _ _, B2.out⟩
          | true =>
            have hT1 : Hid (xT1 s1 true = true) := Lib.hid (by rw [HT1.out, hsg, show decide (14 ≤ xs.length) = true by simp; omega]; rfl)
            have hsg' : (xs.take 4 == [76, 71, 68, 49]) = true := hsg
            clear HT1 hsg
            obtain ⟨w3, HW3⟩ : ∃ x, Hid (w2.alloc (.cells #[.string (str (xs.drop 4)), .int .i64 0, .bool false] 60) = x) := ⟨_, Lib.hid rfl⟩
            have A3 : Hid (AR w3 w2.heap.size (xs.drop 4) false) := Lib.hid (by rw [← HW3.out]; exact AR.made w2 _ (by simp; omega))
            have B3 : Hid (Below w.heap.size w w3) := Lib.hid (by rw [← HW3.out]; exact balloc B2.out _)
            obtain ⟨b, Hb⟩ : ∃ x, Hid (w2.heap.size = x) := ⟨_, Lib.hid rfl⟩
            rw [Hb.out] at A3
            have hwb : Hid (w.heap.size ≤ b) := Lib.hid (by have := B2.out.size; have := Hb.out; omega)
            go_wp2_with fail
            rw [HW3.out, Hb.out]
            refine (AEight_any b (xs.drop 4) false 1099511627776 (by omega) (by omega) w3 A3.out).mono ?_
            rintro e w4 ⟨rfl, hm4, a4⟩
            go_wp2_with fail
            refine (ATwo_any b _ _ w4 a4).mono ?_
            rintro e w5 ⟨rfl, hm5, a5⟩
            rw [← HXS.out] at a5
            rw [show eightV (xs.drop 4) 1099511627776 = xsQ s1 by rw [xsQ, HXS.out], show textN (eightL (xs.drop 4) 1099511627776) = xsN s1 by rw [xsN, xsT, HXS.out]]
            obtain ⟨q, HQ⟩ : ∃ x, Hid (xsQ s1 = x) := ⟨_, Lib.hid rfl⟩
            obtain ⟨m, HM⟩ : ∃ x, Hid (xsN s1 = x) := ⟨_, Lib.hid rfl⟩
            obtain ⟨br, HBr⟩ : ∃ x, Hid (xsB s1 = x) := ⟨_, Lib.hid rfl⟩
            obtain ⟨R1, HR1⟩ : ∃ x, Hid (xsR s1 = x) := ⟨_, Lib.hid rfl⟩
            rw [HQ.out, HM.out]
            have A5 : Hid (AR w5 b R1 br) := Lib.hid (by rw [← HR1.out, ← HBr.out]; exact a5)
            have B5 := Lib.hid (bmod B3.out (hm4.trans hm5) hwb.out)
            have HT2 : Hid (xT2 s1 d n = (!br && (decide (1 ≤ q) && (decide (d < q) && (decide (1 ≤ m) && (decide (m ≤ 60) && decide (m + 3 ≤ n))))))) := Lib.hid (by rw [xT2, HQ.out, HM.out, HBr.out])
            have HLs : Hid (xsL rg = chgL0 R1 rg m) := Lib.hid (by rw [xsL, Hs1.out, HR1.out, HM.out])
            have hq40 : Hid (q ≤ 1099511627776) := Lib.hid (by rw [← HQ.out]; exact xsQ_le _)
            have hT3 : Hid (xT3 rg = (decide (endE (leftS m R1) (flagS m R1 br) = 0) && (rowB (chgL0 R1 rg m) && ((firstS q (chgL0 R1 rg m) == s1) && (markS q (chgL0 R1 rg m) == rg.getD (n - 1) []))))) := Lib.hid (by rw [xT3, HLs.out, Hs1.out, hl.out, xsE, HQ.out, HM.out, HR1.out, HBr.out])
            rw [HQ.out] at HY
            rw [HLs.out] at HY
            have c2 := A5.out.badc
            clear a4 a5 hm4 hm5 A3 HXS HQ HM HBr HR1 HLs
            cases br with
            | true =>
              have hf : Hid (xT2 s1 d n = false) := Lib.hid (by rw [HT2.out]; rfl)
              clear HT2 hT3
              go_wp2
              go_ret3
              exact ⟨0, none, 0, 0, [], false, rfl, HN.out (.inr (.inl hf.out)), isG_nil _ _ _, B5.out⟩
            | false =>
              by_cases hq1 : q < 1
              · have hf : Hid (xT2 s1 d n = false) := Lib.hid (by rw [HT2.out, show decide (1 ≤ q) = false by simp; omega]; simp)
                obtain rfl : q = 0 := by omega
                clear HT2 hT3 HY
                go_wp2
                go_ret3
                exact ⟨0, none, 0, 0, [], false, rfl, HN.out (.inr (.inl hf.out)), isG_nil _ _ _, B5.out⟩
              · by_cases hqd : q ≤ d
                · have hf : Hid (xT2 s1 d n = false) := Lib.hid (by rw [HT2.out, show decide (d < q) = false by simp; omega]; simp)
                  have hq1' : ¬ (q : Int) < 1 := by omega
                  have hqd' : decide (q ≤ d) = true := by simpa using hqd
                  clear HT2 hT3 HY
                  go_wp2
                  go_ret3
                  exact ⟨0, none, 0, 0, [], false, rfl, HN.out (.inr (.inl hf.out)), isG_nil _ _ _, B5.out⟩
                · have hq1' : ¬ (q : Int) < 1 := by omega
                  have hqd' : decide (q ≤ d) = false := by simpa using hqd
                  by_cases hm1 : m < 1
                  · have hf : Hid (xT2 s1 d n = false) := Lib.hid (by rw [HT2.out, show decide (1 ≤ m) = false by simp; omega]; simp)
                    obtain rfl : m = 0 := by omega
                    clear HT2 hT3 HY
                    go_wp2
                    go_ret3
                    exact ⟨0, none, 0, 0, [], false, rfl, HN.out (.inr (.inl hf.out)), isG_nil _ _ _, B5.out⟩
                  · have hm1' : ¬ (m : Int) < 1 := by omega
                    by_cases hm60 : 60 < m
                    · have hf : Hid (xT2 s1 d n = false) := Lib.hid (by rw [HT2.out, show decide (m ≤ 60) = false by simp; omega]; simp)
                      have hm60' : (60 : Int) < (m : Int) := by omega
                      clear HT2 hT3 HY
                      go_wp2
                      go_ret3
                      exact ⟨0, none, 0, 0, [], false, rfl, HN.out (.inr (.inl hf.out)), isG_nil _ _ _, B5.out⟩
                    · have hm60' : ¬ (60 : Int) < (m : Int) := by omega
                      have hwr3 : IntKind.i64.wrap ((m : Int) + 3) = (m : Int) + 3 := IntWalk.i64_in _ (by omega)
                      by_cases hmn : n < m + 3
                      · have hf : Hid (xT2 s1 d n = false) := Lib.hid (by rw [HT2.out, show decide (m + 3 ≤ n) = false by simp; omega]; simp)
                        have hmn' : (n : Int) < (m : Int) + 3 := by omega
                        clear HT2 hT3 HY
                        go_wp2
                        go_ret3
                        exact ⟨0, none, 0, 0, [], false, rfl, HN.out (.inr (.inl hf.out)), isG_nil _ _ _, B5.out⟩
                      · have hT2 : Hid (xT2 s1 d n = true) := Lib.hid (by
                          rw [HT2.out, show decide (1 ≤ q) = true by simp; omega, show decide (d < q) = true by simp; omega, show decide (1 ≤ m) = true by simp; omega, show decide (m ≤ 60) = true by simp; omega, show decide (m + 3 ≤ n) = true by simp; omega]
                          rfl)
                        have hmn' : ¬ (n : Int) < (m : Int) + 3 := by omega
                        have HY2 : Hid (xT3 rg = true → ScanR rg q (chgL0 R1 rg m) true) := Lib.hid (HY.out hT1.out hT2.out)
                        have HN2 : Hid (xT3 rg = false → ScanR rg 0 [] false) := Lib.hid (fun e => HN.out (.inr (.inr e)))
                        clear HT2 HY HN hT1 hT2
                        go_wp2_with fail
                        have hgb : Hid (g < b) := Lib.hid (by have := hwb.out; omega)
                        have hb5 : Hid (b < w5.heap.size) := Lib.hid A5.out.lt'
                        go_loopw [12, 13] (fun v i wr => ∃ (j : Nat) (T : Value), j ≤ m ∧ i = .int .i64 j ∧ v = T ∧ Hid (RG wr 2 encC T (chgL0 R1 rg j)) ∧ Hid (∀ k, blk T = some k → b < k) ∧ Hid (AR wr b (leftS j R1) (flagS j R1 false)) ∧ Hid (Below w.heap.size w wr)) (fun _ i _ => m - (intOf i).toNat)
                        case atStart => exact ⟨0, .slice none 0 0, Nat.zero_le _, rfl, rfl, Lib.hid (RG.nil _ _ _), Lib.hid (fun k hk => by cases hk), A5, B5⟩
                        case round =>
                          obtain ⟨j, T, hj, rfl, rfl, HRj, HNj, HAj, HBj⟩ := hrel
                          by_cases hltj : j < m
                          · have hjI : (j : Int) < (m : Int) := by omega
                            obtain ⟨x, Hx⟩ : ∃ x, Hid (rg.getD (2 + j) [] = x) := ⟨_, Lib.hid rfl⟩
                            have q0 : ∀ y : In (Cfb wr b), y.u.cell? ⟨g, off + (2 + j), none⟩ = some (.string (str x)) := fun y => by
                              rw [← Hx.out]
                              exact Hcs.out y.u (fun k => b ≤ k) ⟨y.is.os.trans HBj.out.os, y.is.tape.trans HBj.out.tape, y.is.output.trans HBj.out.output, Nat.le_trans HBj.out.size y.is.size, fun k hk hn => (y.is.block k (Nat.lt_of_lt_of_le hk HBj.out.size) hn).trans (HBj.out.block k hk)⟩ (by have := hgb.out; omega) (2 + j) (by omega)
                            have i1 : (2 : Int) + (j : Int) < (n : Int) := by omega
                            have i2 : IntKind.i64.wrap ((2 : Int) + (j : Int)) = (2 : Int) + (j : Int) := IntWalk.i64_in _ (by omega)
                            have i3 : ((2 : Int) + (j : Int)).toNat = 2 + j := by omega
                            have i4 : (0 : Int) ≤ (2 : Int) + (j : Int) := by omega
                            have hst : Hid (chgL0 R1 rg (j + 1) = chgL0 R1 rg j ++ [((secN j R1 : Int), x)]) := Lib.hid (by rw [chgL0_succ, Hx.out])
                            clear HY2 HN2 hT3
                            go_wp2_with fail
                            refine wp_region_mix (by kernel_rfl) (Cls (Cfb wr b)) [(0, 0), (1, 0), (3, 0), (4, 0), (5, 0), (6, 0), (7, 0), (2, 1), (8, 0), (9, 1), (10, 1), (11, 0)] (by kernel_rfl) (cls ((Mod.refl _ wr).drew)) ?_
                            repeat (refine mix0 rfl (fun K hK => ?_); go_simp; refine hK _ ?_; clear hK K)
                            refine mix1 rfl (fun K hK => ?_)
                            go_simp
                            refine (AFour_any b (leftS j R1) (flagS j R1 false) _ (HAj.out.later ((Mod.refl (fun _ => False) wr).drew) id)).mono ?_
                            rw [show num (takeS (leftS j R1) 4) = secN j R1 from rfl, show takeL (leftS j R1) 4 = leftS (j + 1) R1 from rfl, show takeB (leftS j R1) (flagS j R1 false) 4 = flagS (j + 1) R1 false from rfl]
                            rintro e w6 ⟨rfl, hm6, ha6⟩
                            have A6 := Lib.hid ha6
                            have M6 : Hid (Mod (· = b) wr w6) := Lib.hid (((Mod.refl (· = b) wr).drew).trans hm6)
                            have MC6 : Hid (Cfb wr b w6) := Lib.hid (M6.out.mono (fun k _ e => by have : k = b := e; show b ≤ k; omega))
                            have R6 := Lib.hid (HRj.out.later M6.out (fun k hk e => by have := HNj.out k hk; have : k = b := e; omega))
                            have B6 := Lib.hid (bmod HBj.out M6.out hwb.out)
                            clear hm6 ha6 q0
                            refine ⟨_, rfl, hK _ _ (cls MC6.out) ?_⟩
                            clear hK K
                            obtain ⟨sc, Hsc⟩ : ∃ y, Hid (secN j R1 = y) := ⟨_, Lib.hid rfl⟩
                            rw [Hsc.out] at hst
                            rw [Hsc.out]
                            repeat (refine mix0 rfl (fun K hK => ?_); go_simp; refine hK _ ?_; clear hK K)
                            refine mix1 rfl (fun K hK => ?_); go_simp
                            obtain ⟨w7, HW7⟩ : ∃ y, Hid (w6.alloc (.cells #[.int .i64 (sc : Int), .string (str x)] 32) = y) := ⟨_, Lib.hid rfl⟩
                            obtain ⟨p7, Hp7⟩ : ∃ y, Hid (w6.heap.size = y) := ⟨_, Lib.hid rfl⟩
                            have B67 : Hid (Below w6.heap.size w6 w7) := Lib.hid (by rw [← HW7.out]; exact balloc (Below.refl _ _) _)
                            have C7 : Hid (IsG w7 2 encC (some ⟨p7, 0, none⟩) 1 [((sc : Int), x)]) := Lib.hid (by rw [← HW7.out, ← Hp7.out]; exact ch_one w6 ((sc : Int), x) _)
                            have MC7 : Hid (Cfb wr b w7) := Lib.hid (MC6.out.trans ((Mod.of_below B67.out).mono (fun k _ h => h)))
                            rw [HW7.out, Hp7.out]
                            refine hK _ _ (cls MC7.out) ?_
                            clear hK K
                            obtain ⟨T8, w8, hr8, r8, a8⟩ := appG chInf encC_ok (R6.out.below B67.out) (c := 1) C7.out (by rw [chgL0_length]; omega) (by decide) 30
                            have Hr8 := Lib.hid hr8
                            have R8 : Hid (RG w8 2 encC T8 (chgL0 R1 rg (j + 1))) := Lib.hid (by rw [hst.out]; exact r8)
                            have hb6 : Hid (b < w6.heap.size) := Lib.hid A6.out.lt'
                            have N8 : Hid (∀ k, blk T8 = some k → b < k) := Lib.hid (fun k hk => by
                              rcases a8.blk with e | ⟨g', e, h'⟩
                              · exact HNj.out k (e ▸ hk)
                              · rw [e] at hk; injection hk with hk; have := hb6.out; have := B67.out.size; omega)
                            have A8 : Hid (AR w8 b (leftS (j + 1) R1) (flagS (j + 1) R1 false)) := Lib.hid ((A6.out.later (Mod.of_below (S := fun _ => False) B67.out) id).later a8.mod (fun hk => by have := HNj.out b hk; omega))
                            have B8 : Hid (Below w.heap.size w w8) := Lib.hid (Mod.below (bnext B6.out B67.out) a8.mod (bnext B6.out B67.out).size (fun k hk => by have := HNj.out k hk; have := hwb.out; omega))
                            have MC8 : Hid (Cfb wr b w8) := Lib.hid (MC7.out.trans (a8.mod.mono (fun k _ hk => by have := HNj.out k hk; show b ≤ k; omega)))
                            clear hr8 r8 a8
                            refine mix_append rfl rfl (.tmp 91) (.tmp 100) 30 rfl (by exact Hr8.out) (cls MC8.out) ?_
                            repeat (refine mix0 rfl (fun K hK => ?_); go_simp; refine hK _ ?_; clear hK K)
                            refine mixEnd ?_
                            go_wp2
                            go_roundw
                            case rel => exact ⟨j + 1, T8, by omega, by go_num, rfl, R8, N8, A8, B8⟩
                            case measure => simp [intOf]; omega
                          · obtain rfl : j = m := by omega
                            have hjI : ¬ (j : Int) < (j : Int) := by omega
                            obtain ⟨A6, c6, e6⟩ := HRj.out.shape
                            rw [chgL0_length] at e6
                            subst e6
                            obtain ⟨L, HL⟩ : ∃ x, Hid (chgL0 R1 rg j = x) := ⟨_, Lib.hid rfl⟩
                            have hlL : Hid (L.length = j) := Lib.hid (by rw [← HL.out, chgL0_length])
                            have hSh : Hid (Sh L) := Lib.hid ⟨by rw [hlL.out]; omega, fun x hx => by
                              rw [← HL.out] at hx
                              simp only [chgL0, List.mem_map, List.mem_range] at hx
                              obtain ⟨i, hi, rfl⟩ := hx
                              have h1 := secN_lt i R1
                              refine ⟨by simp, by simp; omega, ?_⟩
                              have : rg.getD (2 + i) [] ∈ rg := by
                                rw [List.getD_eq_getElem?_getD, List.getElem?_eq_getElem (by have := hl.out; omega)]
                                exact List.getElem_mem _
                              exact H6.out _ this⟩
                            rw [HL.out] at HRj HY2 hT3
                            obtain ⟨GL, hc6, _⟩ := HRj.out.is encC_ok
                            have HG := Lib.hid GL
                            obtain ⟨en, Hen⟩ : ∃ x, Hid (endE (leftS j R1) (flagS j R1 false) = x) := ⟨_, Lib.hid rfl⟩
                            rw [Hen.out] at hT3
                            obtain ⟨F, HF⟩ : ∃ x, Hid (firstS q L = x) := ⟨_, Lib.hid rfl⟩
                            obtain ⟨MK, HMK⟩ : ∃ x, Hid (markS q L = x) := ⟨_, Lib.hid rfl⟩
                            obtain ⟨sl, Hsl⟩ : ∃ x, Hid (rg.getD (n - 1) [] = x) := ⟨_, Lib.hid rfl⟩
                            obtain ⟨rw_, Hrw⟩ : ∃ x, Hid (rowB L = x) := ⟨_, Lib.hid rfl⟩
                            rw [HF.out, HMK.out, Hsl.out, Hrw.out] at hT3
                            clear GL HL HRj HNj hlL
                            go_wp2_with fail
                            refine (xRow_any A6 j c6 L _ HG.out).mono ?_
                            rw [Hrw.out]
                            rintro e wa ⟨rfl, hba⟩
                            have Ba := Lib.hid (bnext HBj.out hba)
                            have Aa := Lib.hid (HAj.out.later (Mod.of_below (S := fun _ => False) hba) id)
                            have Ga := Lib.hid (HG.out.below hba)
                            clear hba HAj HG
                            go_wp2_with fail
                            refine (xlines_any q hq40.out A6 j c6 L wa Ga.out hSh.out).mono ?_
                            rw [HF.out, HMK.out]
                            rintro e wb ⟨rfl, hbb⟩
                            have Bb := Lib.hid (bnext Ba.out hbb)
                            have Ab := Lib.hid (Aa.out.later (Mod.of_below (S := fun _ => False) hbb) id)
                            have Gb := Lib.hid (Ga.out.below hbb)
                            clear hbb Aa Ga
                            go_wp2_with fail
                            refine (AEnd_any b _ _ wb Ab.out).mono ?_
                            rw [Hen.out]
                            rintro e wc ⟨rfl, hbc⟩
                            have Bc := Lib.hid (bnext Bb.out hbc)
                            have Gc := Lib.hid (Gb.out.below hbc)
                            have t2 := Hcs.out wc (fun _ => False) (Mod.of_below Bc.out) id 1 (by omega)
                            have t3 := Hcs.out wc (fun _ => False) (Mod.of_below Bc.out) id (n - 1) (by omega)
                            rw [Hs1.out] at t2
                            rw [Hsl.out] at t3
                            have i1 : ((n : Int) - 1).toNat = n - 1 := by omega
                            have i3 : (0 : Int) ≤ (n : Int) - 1 := by omega
                            have i4 : (n : Int) - 1 < (n : Int) := by omega
                            have i5 : IntKind.i64.wrap ((n : Int) - 1) = (n : Int) - 1 := IntWalk.i64_in _ (by omega)
                            clear hbc Gb Hen HF HMK Hsl Hrw hSh
                            by_cases he : en = 0
                            · subst he
                              cases rw_ with
                              | false =>
                                have hf : Hid (xT3 rg = false) := Lib.hid (by rw [hT3.out]; rfl)
                                clear hT3
                                go_wp2
                                go_ret3
                                exact ⟨0, none, 0, 0, [], false, rfl, HN2.out hf.out, isG_nil _ _ _, Bc.out⟩
                              | true =>
                                cases hf1 : F == s1 with
                                | false =>
                                  have hf : Hid (xT3 rg = false) := Lib.hid (by rw [hT3.out, hf1]; rfl)
                                  clear hT3
                                  go_wp2
                                  go_ret3
                                  exact ⟨0, none, 0, 0, [], false, rfl, HN2.out hf.out, isG_nil _ _ _, Bc.out⟩
                                | true =>
                                  cases hf2 : MK == sl with
                                  | false =>
                                    have hf : Hid (xT3 rg = false) := Lib.hid (by rw [hT3.out, hf1, hf2]; rfl)
                                    clear hT3
                                    go_wp2
                                    go_ret3
                                    exact ⟨0, none, 0, 0, [], false, rfl, HN2.out hf.out, isG_nil _ _ _, Bc.out⟩
                                  | true =>
                                    have hf : Hid (xT3 rg = true) := Lib.hid (by rw [hT3.out, hf1, hf2]; rfl)
                                    clear hT3
                                    go_wp2
                                    go_ret3
                                    exact ⟨q, A6, j, c6, L, true, rfl, HY2.out hf.out, Gc.out, Bc.out⟩
                            · have he' : (en != 0) = true := by simpa using he
                              have hf : Hid (xT3 rg = false) := Lib.hid (by rw [hT3.out, show decide (en = 0) = false by simpa using he]; rfl)
                              clear hT3
                              go_wp2
                              go_ret3
                              exact ⟨0, none, 0, 0, [], false, rfl, HN2.out hf.out, isG_nil _ _ _, Bc.out⟩
end Go.Proofs.YtgncmgchoogmpaaDoor
