/- What the document reads of bytes as a view. -/
import Derived.Test.YtnbhjehaecifcaaDp06
import Derived.Test.YtnbhjehaecifcaaDv06
import Derived.Test.YtnbhjehaecifcaaRc06
import Derived.Test.YtnbhjehaecifcaaPh06
namespace Go.Proofs.Ytnbhjehaecifcaa
open Go.RowKit

/-- What Read tells: which error, and which view. -/
def rdE (s : List UInt8) : Int := if readB s then 0 else 10
def rdW (s : List UInt8) : Vw := if readB s then parseV s else ⟨0, 0, [], [], []⟩
theorem rd_yes {s : List UInt8} (h : readB s = true) : rdE s = 0 ∧ rdW s = parseV s := by unfold rdE rdW; rw [h]; exact ⟨rfl, rfl⟩
theorem rd_no {s : List UInt8} (h : readB s = false) : rdE s = 10 ∧ rdW s = ⟨0, 0, [], [], []⟩ := by unfold rdE rdW; rw [h]; exact ⟨rfl, rfl⟩
set_option maxHeartbeats 4000000 in
theorem RRead_any (s : List UInt8) (hs : s.length ≤ 600) (w : World) :
    Calls Try.prog 15 #[.string (str s)] w fun e w' => ∃ x, e = .returned (.tuple #[vV x, .int .i64 (rdE s)]) ∧ IsV w' x (rdW s) ∧ Below w.heap.size w w' := by
  go_enter Try.func15, Try.ntmps15
  go_upto_region 2 with (fail)
  obtain ⟨w1, Hw1⟩ : ∃ w1, Hid (w.alloc (.cells #[.int .i64 0, .int .i64 0, .slice none 0 0, .slice none 0 0, .slice none 0 0] 25) = w1) := ⟨_, Lib.hid rfl⟩
  obtain ⟨w2, Hw2⟩ : ∃ w2, Hid (w1.alloc (.cells #[.string (str s), .int .i64 0, .bool false] 60) = w2) := ⟨_, Lib.hid rfl⟩
  obtain ⟨p, Hp⟩ : ∃ p, Hid (w.heap.size = p) := ⟨_, Lib.hid rfl⟩
  obtain ⟨c, Hc⟩ : ∃ c, Hid (p + 1 = c) := ⟨_, Lib.hid rfl⟩
  rw [Hw1.out, Hw2.out, Hp.out, Hc.out]
  have Hc1 : Hid (w1.heap.size = c) := Lib.hid (by rw [← Hc.out, ← Hp.out, ← Hw1.out]; simp)
  have HX1 : Hid (BoxV w1 p ⟨0, 0, none, 0, 0, none, 0, 0, none, 0, 0⟩) := Lib.hid (by rw [← Hw1.out, ← Hp.out]; exact BoxV.new w ⟨0, 0, none, 0, 0, none, 0, 0, none, 0, 0⟩)
  have HB1 : Hid (Below w.heap.size w w1) := Lib.hid (by rw [← Hw1.out]; exact (Below.refl _ _).alloc (Nat.le_refl _) _)
  have HB2 : Hid (Below w1.heap.size w1 w2) := Lib.hid (by rw [← Hw2.out]; exact (Below.refl _ _).alloc (Nat.le_refl _) _)
  have HR2 : Hid (AR w2 c s false) := Lib.hid (by rw [← Hw2.out, ← Hc1.out]; exact AR.new w1 s (by omega))
  have hcc : w1.heap.size ≤ c := Nat.le_of_eq Hc1.out
  go_wp2_with fail
  refine (ATwo_any c s false _ HR2.out).mono ?_
  rintro e w5 ⟨rfl, hm5, hr5⟩
  have HB5 : Hid (Below w1.heap.size w1 w5) := Lib.hid (hm5.below HB2.out HB2.out.size (fun _ e => e ▸ hcc))
  have HR5 := Lib.hid hr5
  clear hm5 hr5
  obtain ⟨nv, Hnv⟩ : ∃ z : Int, Hid ((textN s : Int) = z) := ⟨_, Lib.hid rfl⟩
  rw [Hnv.out]
  go_upto_region 3 with (fail)
  obtain ⟨w6, Hw6⟩ : ∃ w6, Hid (w5.alloc (.cells #[.int .i64 nv, .int .i64 0, .slice none 0 0, .slice none 0 0, .slice none 0 0] 25) = w6) := ⟨_, Lib.hid rfl⟩
  obtain ⟨d, Hd⟩ : ∃ d, Hid (w5.heap.size = d) := ⟨_, Lib.hid rfl⟩
  rw [Hw6.out, Hd.out]
  have HD6 : Hid (Dv w1 w6 c d (takeL s 2) (takeB s false 2) nv 0 (.slice none 0 0) (.slice none 0 0) (.slice none 0 0) [] [] []) := Lib.hid (by
    rw [← Hw6.out, ← Hd.out]; exact Dv.new HB5.out hcc HR5.out nv)
  clear HB5 HR5
  go_wp2_with fail
  refine (AEight_any c _ _ 1099511627776 (by omega) (by omega) _ HD6.out.rd).mono ?_
  rintro e w7 ⟨rfl, hm7, hr7⟩
  obtain ⟨ev, Hev⟩ : ∃ z : Int, Hid ((eightV (takeL s 2) 1099511627776 : Int) = z) := ⟨_, Lib.hid rfl⟩
  rw [Hev.out]
  have HD7 := Lib.hid (HD6.out.read hm7 hr7)
  clear hm7 hr7
  have c71 := HD7.out.c1
  have f71 := HD7.out.fr 1 (by omega)
  go_upto_region 4 with (fail)
  obtain ⟨w8, Hw8⟩ : ∃ w8, Hid (w7.setCell ⟨d, 1, none⟩ (.int .i64 ev) = w8) := ⟨_, Lib.hid rfl⟩
  rw [Hw8.out]
  have HD8 : Hid (Dv w1 w8 c d (eightL (takeL s 2) 1099511627776) (eightB (takeL s 2) (takeB s false 2) 1099511627776) nv ev (.slice none 0 0) (.slice none 0 0) (.slice none 0 0) [] [] []) := Lib.hid (by
    rw [← Hw8.out]; exact HD7.out.epoch ev)
  clear c71 f71 HD7
  go_upto_block 0 with (fail)
  go_cut [6] (fun v wx => ∃ (k : Nat) (L : List Int) (l : List UInt8) (b : Bool) (iv : Value), Hid (LI s k L l b) ∧ Hid ((textN s : Int) ≤ k ∨ 8 ≤ k) ∧ Hid (Dv w1 wx c d l b nv ev (.slice none 0 0) (.slice none 0 0) iv L [] []))
  case first =>
    go_wp2_with fail
    go_loopw [6] (fun i wr => ∃ (k : Nat) (L : List Int) (l : List UInt8) (b : Bool) (iv : Value), i = .int .i64 (k : Int) ∧ k ≤ 8 ∧ Hid (LI s k L l b) ∧ Hid (Dv w1 wr c d l b nv ev (.slice none 0 0) (.slice none 0 0) iv L [] [])) (fun i _ => 8 - (intOf i).toNat)
    case atStart =>
      exact ⟨0, [], _, _, _, rfl, by omega, Lib.hid LI.start, HD8⟩
    case round =>
      obtain ⟨k, L, l, b, iv, rfl, hk8, HL, HD⟩ := hrel
      have c0 := HD.out.c0
      by_cases hlt : (k : Int) < nv
      · by_cases h8 : k < 8
        · have hd1 : decide ((k : Int) < nv) = true := by simpa using hlt
          have hd2 : decide ((k : Int) < 8) = true := by simp; omega
          go_upto_region 7 with (fail)
          have k4 : ∀ y : In (Mci6 wr c iv), y.u.cell? ⟨d, 4, none⟩ = some iv := fun y => HD.out.cell4 y.is
          refine wp_region_mix (by kernel_rfl) (Cls (Mci6 wr c iv)) [(0, 0), (1, 0), (2, 0), (3, 1), (4, 1), (5, 1), (6, 0), (7, 2)] (by kernel_rfl) (cls (Mod.refl _ wr).drew) ?_
          have HDr := Lib.hid (HD.out.more (Below.refl _ wr).drew)
          repeat (refine mix0 rfl (fun K hK => ?_); go_simp; refine hK _ ?_; clear hK K)
          refine mix1 rfl (fun K hK => ?_)
          go_simp
          refine (AEight_any c l b 1099511627776 (by omega) (by omega) _ HDr.out.rd).mono ?_
          rintro e wA ⟨rfl, hmA, hrA⟩
          have HDA := Lib.hid (HDr.out.read hmA hrA)
          have mA : Mci6 wr c iv wA := ((Mod.refl _ wr).drew).trans (hmA.mono fun _ _ e => .inl e)
          have MA := Lib.hid mA
          have HL2 := Lib.hid (HL.out.next (by rw [Hnv.out]; exact hlt) h8)
          obtain ⟨z, Hz⟩ : ∃ z : Int, Hid ((eightV l 1099511627776 : Int) = z) := ⟨_, Lib.hid rfl⟩
          rw [Hz.out] at HL2 ⊢
          refine ⟨_, rfl, hK _ _ (cls mA) ?_⟩
          clear hK K hmA hrA mA
          refine mix1 rfl (fun K hK => ?_)
          go_simp
          refine hK _ _ (cls (MA.out.alloc _)) ?_
          clear hK K
          obtain ⟨v', w2', er, hr, hm2, hnb⟩ := appI (HDA.out.more (balloc (Below.refl _ _) (.cells #[.int .i64 z] 3))).ri ⟨wA.heap.size, 0, none⟩ 1 1 [.int .i64 z] rfl (one_cell wA z) (by simp [Value.oneCell']) (by have := HL.out.len; omega)
          have HDB := Lib.hid (HDA.out.more (balloc (Below.refl _ _) (.cells #[.int .i64 z] 3)))
          obtain ⟨A', c', rfl⟩ := row_shape hr
          have M2 := Lib.hid ((MA.out.alloc (.cells #[.int .i64 z] 3)).trans (hm2.mono (T := fun g => g = c ∨ blk iv = some g) fun _ _ e => .inr e))
          have e4 := (hm2.cell (p := ⟨d, 4, none⟩) HDB.out.lt (fun e => (HDB.out.bi d e).2.2 rfl)).trans HDB.out.c4
          have f4 := (hm2.frozen (p := ⟨d, 4, none⟩) HDB.out.lt (fun e => (HDB.out.bi d e).2.2 rfl)).trans (HDB.out.fr 4 (by omega))
          have HD3 := Lib.hid (HDB.out.putI (L2 := L ++ [z]) hm2 (by rw [List.length_append, List.length_singleton, show ics (L ++ [z]) = ics L ++ [Value.int .i64 z] from by simp [ics]]; exact hr) hnb)
          have Er := Lib.hid er
          clear er hr hm2 hnb
          refine mix_append rfl rfl (.tmp 33) (.tmp 36) 23 rfl Er.out (cls M2.out) ?_
          repeat (refine mix0 rfl (fun K hK => ?_); go_simp; refine hK _ ?_; clear hK K)
          refine mix2 rfl (fun K hK => ?_); go_simp; refine hK _ _ ?_; clear hK K
          refine mixEnd ?_
          clear k4 e4 f4
          obtain ⟨w3, Hw3⟩ : ∃ w3, Hid (w2'.setCell ⟨d, 4, none⟩ (.slice A' (L.length + 1) c') = w3) := ⟨_, Lib.hid rfl⟩
          have HD4 := HD3.out
          rw [Hw3.out] at HD4 ⊢
          have HD4 := Lib.hid HD4
          go_wp2
          go_roundw
          case rel => exact ⟨k + 1, L ++ [z], _, _, _, by go_num, by omega, HL2, HD4⟩
          case measure => simp [intOf]; omega
        · have hd1 : decide ((k : Int) < nv) = true := by simpa using hlt
          have hd2 : decide ((k : Int) < 8) = false := by simp; omega
          go_wp2_with fail
          go_meet
          exact ⟨k, L, l, b, iv, HL, Lib.hid (.inr (by omega)), HD⟩
      · have hd1 : decide ((k : Int) < nv) = false := by simpa using hlt
        go_wp2_with fail
        go_meet
        exact ⟨k, L, l, b, iv, HL, Lib.hid (.inl (by rw [Hnv.out]; omega)), HD⟩
  case rest =>
    obtain ⟨k, L, l, b, iv, HL, Hk, HD⟩ := hcut
    clear HR2 HD6 HD8
    go_wp2_with fail
    refine (ATwo_any c l b _ HD.out.rd).mono ?_
    rintro e w9 ⟨rfl, hm9, hr9⟩
    have HD9 := Lib.hid (HD.out.read hm9 hr9)
    have HM9 := Lib.hid (LM.start HL.out Hk.out)
    have hn9 : textN l < 65536 := num_takeS l 2
    obtain ⟨nn, Hnn⟩ : ∃ z : Nat, Hid (textN l = z) := ⟨_, Lib.hid rfl⟩
    rw [Hnn.out] at HM9 hn9 ⊢
    clear hm9 hr9
    go_upto_block 2 with (fail)
    go_cut [8] (fun v wx => ∃ (k : Nat) (M : List Mb) (l : List UInt8) (b : Bool) (mv : Value), Hid (LM s L nn k M l b) ∧ Hid (nn ≤ k ∨ b = true) ∧ Hid (Dv w1 wx c d l b nv ev mv (.slice none 0 0) iv L M []))
    case first =>
      go_wp2_with fail
      go_loopw [8] (fun i wr => ∃ (k : Nat) (M : List Mb) (l : List UInt8) (b : Bool) (mv : Value), i = .int .i64 (k : Int) ∧ k ≤ nn ∧ Hid (LM s L nn k M l b) ∧ Hid (Dv w1 wr c d l b nv ev mv (.slice none 0 0) iv L M [])) (fun i _ => nn - (intOf i).toNat)
      case atStart => exact ⟨0, [], _, _, _, rfl, by omega, HM9, HD9⟩
      case round =>
        obtain ⟨k, M, l, b, mv, rfl, hkn, HM, HD⟩ := hrel
        have cb := HD.out.cbad
        by_cases hlt : (k : Int) < (nn : Int)
        · have hd1 : decide ((k : Int) < (nn : Int)) = true := by simpa using hlt
          cases b with
          | true =>
            go_wp2_with fail
            go_meet
            exact ⟨k, M, l, true, mv, HM, Lib.hid (.inr rfl), HD⟩
          | false =>
            go_upto_region 12 with (fail)
            clear cb
            go_wp2_with fail
            refine (ATwo_any c l false _ HD.out.rd).mono ?_
            rintro e wA ⟨rfl, hmA, hrA⟩
            have HDA := Lib.hid (HD.out.read hmA hrA)
            clear hmA hrA
            obtain ⟨m1, Hm1⟩ : ∃ z : Int, Hid (i2 l = z) := ⟨_, Lib.hid rfl⟩
            rw [show (textN l : Int) = m1 from Hm1.out]
            go_upto_region 13 with (fail)
            obtain ⟨wB, HwB⟩ : ∃ y, Hid (wA.alloc (.cells #[.int .i64 m1, .int .i64 0, .bool false] 43) = y) := ⟨_, Lib.hid rfl⟩
            obtain ⟨q, Hq⟩ : ∃ y, Hid (wA.heap.size = y) := ⟨_, Lib.hid rfl⟩
            rw [HwB.out, Hq.out]
            have HXB : Hid (BoxM wB q (m1, 0, false)) := Lib.hid (by rw [← HwB.out, ← Hq.out]; exact BoxM.new wA (m1, 0, false))
            have HDB := Lib.hid (by have h := HDA.out.more (balloc (Below.refl _ _) (.cells #[.int .i64 m1, .int .i64 0, .bool false] 43)); rw [HwB.out] at h; exact h)
            have hqc : q ≠ c := by have := HDA.out.rd.lt; have := Hq.out; omega
            have hqm : blk mv ≠ some q := fun e => by have := HDA.out.rm.blk_lt e; have := Hq.out; omega
            have hqi : blk iv ≠ some q := fun e => by have := HDA.out.ri.blk_lt e; have := Hq.out; omega
            have hq0 : w1.heap.size ≤ q := by have := HDA.out.below.size; have := Hq.out; omega
            have hqn : blk (.slice none 0 0) ≠ some q := by simp [blk]
            have hqd : q ≠ d := by have := HDA.out.lt; have := Hq.out; omega
            go_wp2_with fail
            refine (AEight_any c _ _ 1099511627776 (by omega) (by omega) _ HDB.out.rd).mono ?_
            rintro e wC ⟨rfl, hmC, hrC⟩
            have HDC := Lib.hid (HDB.out.read hmC hrC)
            have HXC := Lib.hid ((Mx.of HXB.out).mod hmC hqc)
            clear hmC hrC
            obtain ⟨m2, Hm2⟩ : ∃ z : Int, Hid (i8 (r2 l) = z) := ⟨_, Lib.hid rfl⟩
            rw [show (eightV (takeL l 2) 1099511627776 : Int) = m2 from Hm2.out]
            have x1 := HXC.out.c1
            have y1 := HXC.out.fr 1 (by omega)
            go_upto_region 14 with (fail)
            obtain ⟨wD, HwD⟩ : ∃ y, Hid (wC.setCell ⟨q, 1, none⟩ (.int .i64 m2) = y) := ⟨_, Lib.hid rfl⟩
            rw [HwD.out]
            have HXD : Hid (Mx wD q (m1, m2, false)) := Lib.hid (by rw [← HwD.out]; exact HXC.out.set1 m2)
            have HDD := Lib.hid (HDC.out.other (w' := wD) (by rw [← HwD.out]; exact (Mod.refl _ wC).set1 _) hq0 hqc hqd hqm hqn hqi)
            clear x1 y1
            go_wp2_with fail
            refine (ATwo_any c _ _ _ HDD.out.rd).mono ?_
            rintro e wE ⟨rfl, hmE, hrE⟩
            have HDE := Lib.hid (HDD.out.read hmE hrE)
            have HXE := Lib.hid (HXD.out.mod hmE hqc)
            clear hmE hrE
            obtain ⟨kk, Hkk⟩ : ∃ z : Nat, Hid (textN (dR l) = z) := ⟨_, Lib.hid rfl⟩
            rw [show (textN (eightL (takeL l 2) 1099511627776)) = kk from Hkk.out]
            go_upto_if 62 with (fail)
            go_cut [10] (fun v wx => v = .int .i64 (kk : Int) ∧ ∃ (l' : List UInt8) (b' : Bool), Hid (LM s L nn (k + 1) (M ++ [mV l]) l' b') ∧ Hid (Dv w1 wx c d l' b' nv ev mv (.slice none 0 0) iv L M []) ∧ Hid (Mx wx q (m1, m2, false)))
            case first =>
              have cb := HDE.out.cbad
              have fb := HDE.out.fbad
              by_cases h1 : (1 : Int) < (kk : Int)
              · have hd : decide ((1 : Int) < (kk : Int)) = true := by simpa using h1
                go_wp2_with fail
                go_meet
                exact ⟨rfl, _, _, Lib.hid (HM.out.bad (by omega) (by rw [Hkk.out]; omega)), Lib.hid HDE.out.bad, Lib.hid (HXE.out.mod ((Mod.refl (· = c) wE).set1 _) hqc)⟩
              · have hd : decide ((1 : Int) < (kk : Int)) = false := by simpa using h1
                go_wp2_with fail
                go_meet
                exact ⟨rfl, _, _, Lib.hid (HM.out.good (by omega) (by rw [Hkk.out]; omega)), HDE, HXE⟩
            case rest =>
              obtain ⟨rfl, l', b', HM', HD', HX'⟩ := hcut
              have x2 := HX'.out.c2
              have y2 := HX'.out.fr 2 (by omega)
              obtain ⟨r, Hr⟩ : ∃ z : Bool, Hid (((kk : Int) == 1) = z) := ⟨_, Lib.hid rfl⟩
              go_upto_region 18 with (fail)
              rw [Hr.out]
              obtain ⟨wF, HwF⟩ : ∃ y, Hid (wc.setCell ⟨q, 2, none⟩ (.bool r) = y) := ⟨_, Lib.hid rfl⟩
              rw [HwF.out]
              have HXF : Hid (Mx wF q (m1, m2, r)) := Lib.hid (by rw [← HwF.out]; exact HX'.out.set2 r)
              have HDF := Lib.hid (HD'.out.other (w' := wF) (by rw [← HwF.out]; exact (Mod.refl _ wc).set1 _) hq0 hqc hqd hqm hqn hqi)
              have Em : Hid (mV l = (m1, m2, r)) := Lib.hid (by rw [mV, Hm1.out, Hm2.out, ← Hr.out, ← Hkk.out]; rfl)
              clear x2 y2
              have x0 := HXF.out.c0
              have x1 := HXF.out.c1
              have x2 := HXF.out.c2
              have d2 := HDF.out.c2
              have HDG : Hid (Row (wF.alloc (.cells #[.int .i64 m1, .int .i64 m2, .bool r] 43)) 3 mv M.length (mcs M)) := Lib.hid (HDF.out.more (balloc (Below.refl _ _) _)).rm
              obtain ⟨i0, hi0, hz0, hz1, hz2⟩ := info_parts infoM
              have Hi := Lib.hid hi0
              have Hz0 := Lib.hid hz0
              have Hz1 := Lib.hid hz1
              have Hz2 := Lib.hid hz2
              clear hi0 hz0 hz1 hz2
              have hM : M.length + 1 ≤ 65536 := by have := HM.out.len; omega
              go_wp2_with (at_builtin; refine wpList_append_any _ rfl (.tmp 70) (.tmp 72) 22 rfl HDG.out 43 i0 (.agg #[.int .i64 0, .int .i64 0, .bool false]) 24 Try.underlying22 Hi.out Hz0.out Hz1.out Hz2.out rfl (by decide) rfl ⟨wF.heap.size, 0, none⟩ 1 1 (mb1 (m1, m2, r)) rfl rfl (three_cells wF (m1, m2, r)) (one_three (m1, m2, r)) (by unfold maxLen; omega) (by omega) ?_; intro v2 wG hrow hmG hbG; have e2 := (hmG.cell (p := ⟨d, 2, none⟩) (HDF.out.more (balloc (Below.refl _ _) (.cells #[.int .i64 m1, .int .i64 m2, .bool r] 43))).lt (fun e => (HDF.out.bm d e).2.2 rfl)).trans (HDF.out.more (balloc (Below.refl _ _) (.cells #[.int .i64 m1, .int .i64 m2, .bool r] 43))).c2; have f2 := (hmG.frozen (p := ⟨d, 2, none⟩) (HDF.out.more (balloc (Below.refl _ _) (.cells #[.int .i64 m1, .int .i64 m2, .bool r] 43))).lt (fun e => (HDF.out.bm d e).2.2 rfl)).trans ((HDF.out.more (balloc (Below.refl _ _) (.cells #[.int .i64 m1, .int .i64 m2, .bool r] 43))).fr 2 (by omega)); obtain ⟨A2, c2, rfl⟩ := row_shape hrow; have HR := Lib.hid hrow; have HMG := Lib.hid hmG; have HBG := Lib.hid hbG; clear hrow hmG hbG)
              have HDN := Lib.hid ((HDF.out.more (balloc (Below.refl _ _) (.cells #[.int .i64 m1, .int .i64 m2, .bool r] 43))).putM (L2 := M ++ [mV l]) HMG.out (by rw [Em.out, List.length_append, List.length_singleton, mcs_append, mcs_one]; exact HR.out) HBG.out)
              go_roundw
              case rel => exact ⟨k + 1, M ++ [mV l], l', b', _, by go_num, by omega, HM', HDN⟩
              case measure => simp [intOf]; omega
        · have hd1 : decide ((k : Int) < (nn : Int)) = false := by simpa using hlt
          go_wp2_with fail
          go_meet
          exact ⟨k, M, l, b, mv, HM, Lib.hid (.inl (by omega)), HD⟩
    case rest =>
      obtain ⟨k2, M, l2, b2, mv, HM2, Hk2, HDM⟩ := hcut
      clear HM9 HD9
      go_wp2_with fail
      refine (ATwo_any c l2 b2 _ HDM.out.rd).mono ?_
      rintro e w9' ⟨rfl, hm9, hr9⟩
      have HD9 := Lib.hid (HDM.out.read hm9 hr9)
      have HM9 := Lib.hid (LD.start HM2.out Hk2.out)
      have hn10 : textN l2 < 65536 := num_takeS l2 2
      obtain ⟨n3, Hn3⟩ : ∃ z : Nat, Hid (textN l2 = z) := ⟨_, Lib.hid rfl⟩
      rw [Hn3.out] at HM9 hn10 ⊢
      clear hm9 hr9
      go_upto_block 4 with (fail)
      go_cut [11] (fun v wx => ∃ (k : Nat) (D : List Mb) (l : List UInt8) (b : Bool) (dv : Value), Hid (LD s L M n3 k D l b) ∧ Hid (n3 ≤ k ∨ b = true) ∧ Hid (Dv w1 wx c d l b nv ev mv dv iv L M D))
      case first =>
        go_wp2_with fail
        go_loopw [11] (fun i wr => ∃ (k : Nat) (D : List Mb) (l : List UInt8) (b : Bool) (dv : Value), i = .int .i64 (k : Int) ∧ k ≤ n3 ∧ Hid (LD s L M n3 k D l b) ∧ Hid (Dv w1 wr c d l b nv ev mv dv iv L M D)) (fun i _ => n3 - (intOf i).toNat)
        case atStart => exact ⟨0, [], _, _, _, rfl, by omega, HM9, HD9⟩
        case round =>
          obtain ⟨k, D, l, b, dv, rfl, hkn, HM, HD⟩ := hrel
          have cb := HD.out.cbad
          by_cases hlt : (k : Int) < (n3 : Int)
          · have hd1 : decide ((k : Int) < (n3 : Int)) = true := by simpa using hlt
            cases b with
            | true =>
              go_wp2_with fail
              go_meet
              exact ⟨k, D, l, true, dv, HM, Lib.hid (.inr rfl), HD⟩
            | false =>
              go_upto_region 23 with (fail)
              clear cb
              go_wp2_with fail
              refine (ATwo_any c l false _ HD.out.rd).mono ?_
              rintro e wA ⟨rfl, hmA, hrA⟩
              have HDA := Lib.hid (HD.out.read hmA hrA)
              clear hmA hrA
              obtain ⟨m1, Hm1⟩ : ∃ z : Int, Hid (i2 l = z) := ⟨_, Lib.hid rfl⟩
              rw [show (textN l : Int) = m1 from Hm1.out]
              go_upto_region 24 with (fail)
              obtain ⟨wB, HwB⟩ : ∃ y, Hid (wA.alloc (.cells #[.int .i64 m1, .int .i64 0, .bool false] 43) = y) := ⟨_, Lib.hid rfl⟩
              obtain ⟨q, Hq⟩ : ∃ y, Hid (wA.heap.size = y) := ⟨_, Lib.hid rfl⟩
              rw [HwB.out, Hq.out]
              have HXB : Hid (BoxM wB q (m1, 0, false)) := Lib.hid (by rw [← HwB.out, ← Hq.out]; exact BoxM.new wA (m1, 0, false))
              have HDB := Lib.hid (by have h := HDA.out.more (balloc (Below.refl _ _) (.cells #[.int .i64 m1, .int .i64 0, .bool false] 43)); rw [HwB.out] at h; exact h)
              have hqc : q ≠ c := by have := HDA.out.rd.lt; have := Hq.out; omega
              have hqm : blk mv ≠ some q := fun e => by have := HDA.out.rm.blk_lt e; have := Hq.out; omega
              have hqi : blk iv ≠ some q := fun e => by have := HDA.out.ri.blk_lt e; have := Hq.out; omega
              have hqn : blk dv ≠ some q := fun e => by have := HDA.out.rdd.blk_lt e; have := Hq.out; omega
              have hq0 : w1.heap.size ≤ q := by have := HDA.out.below.size; have := Hq.out; omega
              have hqd : q ≠ d := by have := HDA.out.lt; have := Hq.out; omega
              go_wp2_with fail
              refine (AEight_any c _ _ 1099511627776 (by omega) (by omega) _ HDB.out.rd).mono ?_
              rintro e wC ⟨rfl, hmC, hrC⟩
              have HDC := Lib.hid (HDB.out.read hmC hrC)
              have HXC := Lib.hid ((Mx.of HXB.out).mod hmC hqc)
              clear hmC hrC
              have HM' := Lib.hid (HM.out.next (by omega))
              obtain ⟨m2, Hm2⟩ : ∃ z : Int, Hid (i8 (r2 l) = z) := ⟨_, Lib.hid rfl⟩
              rw [show (eightV (takeL l 2) 1099511627776 : Int) = m2 from Hm2.out]
              have x1 := HXC.out.c1
              have y1 := HXC.out.fr 1 (by omega)
              go_upto_region 25 with (fail)
              obtain ⟨wF, HwF⟩ : ∃ y, Hid (wC.setCell ⟨q, 1, none⟩ (.int .i64 m2) = y) := ⟨_, Lib.hid rfl⟩
              rw [HwF.out]
              have HXF : Hid (Mx wF q (m1, m2, false)) := Lib.hid (by rw [← HwF.out]; exact HXC.out.set1 m2)
              have HDF := Lib.hid (HDC.out.other (w' := wF) (by rw [← HwF.out]; exact (Mod.refl _ wC).set1 _) hq0 hqc hqd hqm hqn hqi)
              have Em : Hid (dV l = (m1, m2, false)) := Lib.hid (by rw [dV, Hm1.out, Hm2.out])
              clear x1 y1
              have x0 := HXF.out.c0
              have x1 := HXF.out.c1
              have x2 := HXF.out.c2
              have d2 := HDF.out.c3
              have HDG : Hid (Row (wF.alloc (.cells #[.int .i64 m1, .int .i64 m2, .bool false] 43)) 3 dv D.length (mcs D)) := Lib.hid (HDF.out.more (balloc (Below.refl _ _) _)).rdd
              obtain ⟨i0, hi0, hz0, hz1, hz2⟩ := info_parts infoM
              have Hi := Lib.hid hi0
              have Hz0 := Lib.hid hz0
              have Hz1 := Lib.hid hz1
              have Hz2 := Lib.hid hz2
              clear hi0 hz0 hz1 hz2
              have hM : D.length + 1 ≤ 65536 := by have := HM.out.len; omega
              go_wp2_with (at_builtin; refine wpList_append_any _ rfl (.tmp 96) (.tmp 98) 22 rfl HDG.out 43 i0 (.agg #[.int .i64 0, .int .i64 0, .bool false]) 24 Try.underlying22 Hi.out Hz0.out Hz1.out Hz2.out rfl (by decide) rfl ⟨wF.heap.size, 0, none⟩ 1 1 (mb1 (m1, m2, false)) rfl rfl (three_cells wF (m1, m2, false)) (one_three (m1, m2, false)) (by unfold maxLen; omega) (by omega) ?_; intro v2 wG hrow hmG hbG; have e2 := (hmG.cell (p := ⟨d, 3, none⟩) (HDF.out.more (balloc (Below.refl _ _) (.cells #[.int .i64 m1, .int .i64 m2, .bool false] 43))).lt (fun e => (HDF.out.bd d e).2.2 rfl)).trans (HDF.out.more (balloc (Below.refl _ _) (.cells #[.int .i64 m1, .int .i64 m2, .bool false] 43))).c3; have f2 := (hmG.frozen (p := ⟨d, 3, none⟩) (HDF.out.more (balloc (Below.refl _ _) (.cells #[.int .i64 m1, .int .i64 m2, .bool false] 43))).lt (fun e => (HDF.out.bd d e).2.2 rfl)).trans ((HDF.out.more (balloc (Below.refl _ _) (.cells #[.int .i64 m1, .int .i64 m2, .bool false] 43))).fr 3 (by omega)); obtain ⟨A2, c2, rfl⟩ := row_shape hrow; have HR := Lib.hid hrow; have HMG := Lib.hid hmG; have HBG := Lib.hid hbG; clear hrow hmG hbG)
              have HDN := Lib.hid ((HDF.out.more (balloc (Below.refl _ _) (.cells #[.int .i64 m1, .int .i64 m2, .bool false] 43))).putD (L2 := D ++ [dV l]) HMG.out (by rw [Em.out, List.length_append, List.length_singleton, mcs_append, mcs_one]; exact HR.out) HBG.out)
              go_roundw
              case rel => exact ⟨k + 1, D ++ [dV l], _, _, _, by go_num, by omega, HM', HDN⟩
              case measure => simp [intOf]; omega
          · have hd1 : decide ((k : Int) < (n3 : Int)) = false := by simpa using hlt
            go_wp2_with fail
            go_meet
            exact ⟨k, D, l, b, dv, HM, Lib.hid (.inl (by omega)), HD⟩
      case rest =>
        obtain ⟨k3, D, l3, b3, dv, HM3, Hk3, HDD⟩ := hcut
        have HFin := Lib.hid (HM3.out.fin Hk3.out)
        have HRd := Lib.hid HM3.out.rd
        clear HM3 Hk3
        obtain ⟨mA, mc, rfl⟩ := row_shape HDD.out.rm
        obtain ⟨dA, dc, rfl⟩ := row_shape HDD.out.rdd
        obtain ⟨iA, ic, rfl⟩ := row_shape HDD.out.ri
        go_wp2_with fail
        refine (AEnd_any c l3 b3 _ HDD.out.rd).mono ?_
        rintro e wE ⟨rfl, hbE⟩
        have HDE := Lib.hid (HDD.out.more hbE)
        clear hbE HDD
        obtain ⟨X, HX⟩ : ∃ X : Vx, Hid (X = ⟨nv, ev, mA, M.length, mc, dA, D.length, dc, iA, L.length, ic⟩) := ⟨_, Lib.hid rfl⟩
        obtain ⟨D0, HD0⟩ : ∃ V, Hid (docV s L M D = V) := ⟨_, Lib.hid rfl⟩
        have HVE : Hid (∀ u, Below wE.heap.size wE u → IsV u ⟨nv, ev, mA, M.length, mc, dA, D.length, dc, iA, L.length, ic⟩ D0) := Lib.hid (fun u hu => by
          rw [← HD0.out]
          have h : IsV wE ⟨nv, ev, mA, M.length, mc, dA, D.length, dc, iA, L.length, ic⟩ (docV s L M D) := ⟨Hnv.out.symm, Hev.out.symm, RowM.isL HDE.out.rm, RowM.isL HDE.out.rdd, RowI.isI HDE.out.ri⟩
          exact h.below hu)
        have HBn : Hid (∀ u, Below wE.heap.size wE u → Below w.heap.size w (setV u p noVx)) := Lib.hid (fun u hu => bmod (bnext (bnext HB1.out HDE.out.below) hu) (setV_mod u p noVx) (by have := Hp.out; omega))
        have HBx : Hid (∀ u, Below wE.heap.size wE u → BoxV u p ⟨0, 0, none, 0, 0, none, 0, 0, none, 0, 0⟩) := Lib.hid (fun u hu => HX1.out.below (bnext HDE.out.below hu))
        have HNo : Hid (∀ u, Below wE.heap.size wE u → readB s = false → ∃ uy, Hid (((((u.setCell ⟨p, 0, none⟩ (.int .i64 0)).setCell ⟨p, 1, none⟩ (.int .i64 0)).setCell ⟨p, 2, none⟩ (.slice none 0 0)).setCell ⟨p, 3, none⟩ (.slice none 0 0)).setCell ⟨p, 4, none⟩ (.slice none 0 0) = uy) ∧ BoxV uy p noVx ∧ (∃ x, (.returned (.tuple #[vV noVx, .int .i64 10]) : Ending) = .returned (.tuple #[vV x, .int .i64 (rdE s)]) ∧ IsV uy x (rdW s) ∧ Below w.heap.size w uy)) := Lib.hid (fun u hu hr => by
          refine ⟨_, Lib.hid rfl, setV_box (HBx.out u hu) noVx, noVx, by rw [(rd_no hr).1], ?_, HBn.out u hu⟩
          rw [(rd_no hr).2]
          exact ⟨rfl, rfl, RowM.isL (row_nil _ _), RowM.isL (row_nil _ _), RowI.isI (row_nil _ _)⟩)
        have HYes : Hid (∀ u, Below wE.heap.size wE u → readB s = true → D0 = parseV s → ∃ uy, Hid (((((u.setCell ⟨p, 0, none⟩ (.int .i64 nv)).setCell ⟨p, 1, none⟩ (.int .i64 ev)).setCell ⟨p, 2, none⟩ (.slice mA M.length mc)).setCell ⟨p, 3, none⟩ (.slice dA D.length dc)).setCell ⟨p, 4, none⟩ (.slice iA L.length ic) = uy) ∧ BoxV uy p ⟨nv, ev, mA, M.length, mc, dA, D.length, dc, iA, L.length, ic⟩ ∧ (∃ x, (.returned (.tuple #[vV ⟨nv, ev, mA, M.length, mc, dA, D.length, dc, iA, L.length, ic⟩, .int .i64 0]) : Ending) = .returned (.tuple #[vV x, .int .i64 (rdE s)]) ∧ IsV uy x (rdW s) ∧ Below w.heap.size w uy)) := Lib.hid (fun u hu hr hd => by
          have m := setV_mod u p ⟨nv, ev, mA, M.length, mc, dA, D.length, dc, iA, L.length, ic⟩
          refine ⟨_, Lib.hid rfl, setV_box (HBx.out u hu) ⟨nv, ev, mA, M.length, mc, dA, D.length, dc, iA, L.length, ic⟩, ⟨nv, ev, mA, M.length, mc, dA, D.length, dc, iA, L.length, ic⟩, by rw [(rd_yes hr).1], ?_, bmod (bnext (bnext HB1.out HDE.out.below) hu) m (by have := Hp.out; omega)⟩
          rw [(rd_yes hr).2, ← hd]
          have hV := HVE.out u hu
          have h0 := Hc1.out
          have h1 := Hc.out
          exact ⟨hV.nodes, hV.epoch, hV.mem.hold m (fun i hi e => by have := (HDE.out.bm i hi).1; omega), hV.dead.hold m (fun i hi e => by have := (HDE.out.bd i hi).1; omega), hV.incs.hold m (fun i hi e => by have := (HDE.out.bi i hi).1; omega)⟩)
        clear HBn
        by_cases hE : b3 = false ∧ l3 = []
        · obtain ⟨rfl, rfl⟩ := hE
          have HF2 : Hid (chkB D0 = true → readB s = true) := Lib.hid (fun hc => HFin.out.2 rfl rfl (by rw [HD0.out]; exact hc))
          have HF1 : Hid (readB s = true → D0 = parseV s) := Lib.hid (fun hr => HD0.out.symm.trans (HFin.out.1 hr).2.2)
          have HM1 : Hid (D0.mem.length ≤ 1000) := Lib.hid (by
            have h := congrArg List.length (HRd.out rfl)
            rw [← HD0.out]
            simp only [List.length_append, catM_len] at h
            show M.length ≤ 1000
            omega)
          rw [show endE [] false = 0 from rfl]
          have hz0 : ((0 : Int) != 0) = false := rfl
          have c0 := HDE.out.c0
          have c1 := HDE.out.c1
          have c2 := HDE.out.c2
          have c3 := HDE.out.c3
          have c4 := HDE.out.c4
          go_wp2_with fail
          clear c0 c1 c2 c3 c4
          refine (RCheck_any _ ⟨nv, ev, mA, M.length, mc, dA, D.length, dc, iA, L.length, ic⟩ D0 (HVE.out wE (Below.refl _ _)) HM1.out).mono ?_
          rintro e wK ⟨rfl, hbK⟩
          have HBK := Lib.hid hbK
          have HDK := Lib.hid (HDE.out.more hbK)
          clear hbK
          have f0 := (HBx.out wK HBK.out).free 0
          have f1 := (HBx.out wK HBK.out).free 1
          have f2 := (HBx.out wK HBK.out).free 2
          have f3 := (HBx.out wK HBK.out).free 3
          have f4 := (HBx.out wK HBK.out).free 4
          obtain ⟨z0, z1, z2, z3, z4⟩ := (HBx.out wK HBK.out).cells
          cases hc : chkB D0 with
          | false =>
            have he : chkE D0 = 1 := by unfold chkE; rw [hc]; rfl
            have hr : readB s = false := by
              cases hr : readB s with
              | false => rfl
              | true =>
                have h2 := HF1.out hr
                rw [h2] at hc
                rw [readB, hc] at hr
                cases hr
            obtain ⟨uy, HU, HCu, hfin⟩ := HNo.out wK HBK.out hr
            have Hfin := Lib.hid hfin
            have hz1 : ((1 : Int) != 0) = true := rfl
            clear hc hr hfin
            rw [he]
            go_wp2
            rw [HU.out]
            obtain ⟨s0, s1, s2, s3, s4⟩ := HCu.cells
            simp only [noVx] at s0 s1 s2 s3 s4
            exact bodyPost_ret (v := .tuple #[vV noVx, .int .i64 10]) (by simp [results, Try.results15, go_sem, s0, s1, s2, s3, s4, noVx]) rfl Hfin.out
          | true =>
            have he : chkE D0 = 0 := by unfold chkE; rw [hc]; rfl
            have hr : readB s = true := HF2.out hc
            have hd : D0 = parseV s := HF1.out hr
            obtain ⟨uy, HU, HCu, hfin⟩ := HYes.out wK HBK.out hr hd
            have Hfin := Lib.hid hfin
            have c0 := HDK.out.c0
            have c1 := HDK.out.c1
            have c2 := HDK.out.c2
            have c3 := HDK.out.c3
            have c4 := HDK.out.c4
            clear hc hr hd hfin
            rw [he]
            go_wp2
            rw [HU.out]
            obtain ⟨s0, s1, s2, s3, s4⟩ := HCu.cells
            exact bodyPost_ret (v := .tuple #[vV ⟨nv, ev, mA, M.length, mc, dA, D.length, dc, iA, L.length, ic⟩, .int .i64 0]) (by simp [results, Try.results15, go_sem, s0, s1, s2, s3, s4]) rfl Hfin.out
        · have he : endE l3 b3 = 10 := by unfold endE; rw [if_neg hE]
          have hr : readB s = false := by
            cases hr : readB s with
            | false => rfl
            | true => exact absurd ⟨(HFin.out.1 hr).1, (HFin.out.1 hr).2.1⟩ hE
          obtain ⟨uy, HU, HCu, hfin⟩ := HNo.out wE (Below.refl _ _) hr
          have Hfin := Lib.hid hfin
          have hz1 : ((10 : Int) != 0) = true := rfl
          have f0 := (HBx.out wE (Below.refl _ _)).free 0
          have f1 := (HBx.out wE (Below.refl _ _)).free 1
          have f2 := (HBx.out wE (Below.refl _ _)).free 2
          have f3 := (HBx.out wE (Below.refl _ _)).free 3
          have f4 := (HBx.out wE (Below.refl _ _)).free 4
          obtain ⟨z0, z1, z2, z3, z4⟩ := (HBx.out wE (Below.refl _ _)).cells
          clear hE hr hfin
          rw [he]
          go_wp2
          rw [HU.out]
          obtain ⟨s0, s1, s2, s3, s4⟩ := HCu.cells
          simp only [noVx] at s0 s1 s2 s3 s4
          exact bodyPost_ret (v := .tuple #[vV noVx, .int .i64 10]) (by simp [results, Try.results15, go_sem, s0, s1, s2, s3, s4, noVx]) rfl Hfin.out
end Go.Proofs.Ytnbhjehaecifcaa
