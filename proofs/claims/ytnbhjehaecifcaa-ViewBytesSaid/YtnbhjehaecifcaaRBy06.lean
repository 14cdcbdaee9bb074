/- Views as the document writes them, and its new ones. -/
import Derived.Test.YtnbhjehaecifcaaRc06
import Derived.Test.YtnbhjehaecifcaaByt06
import Derived.Test.YtnbhjehaecifcaaAsk2
namespace Go.Proofs.Ytnbhjehaecifcaa
open Go.RowKit

theorem wr64 (n : Int) (h0 : 0 ≤ n) (h1 : n < 9223372036854775808) : IntKind.u64.wrap n = n := by simp [IntKind.wrap, IntKind.signed, IntKind.bits]; omega
theorem wr64n (n : Nat) (h1 : n < 9223372036854775808) : IntKind.u64.wrap (n : Int) = (n : Int) := wr64 _ (by omega) (by omega)
theorem bs1 (w : World) (n : Nat) (a : Int) (hn : n = w.heap.size) : (convert 73 9 (.slice (some ⟨n, 0, none⟩) 1 1)).run Try.prog (w.alloc (.cells #[.int .u8 a] 5)) = .ok (.string (str [UInt8.ofNat a.toNat])) (w.alloc (.cells #[.int .u8 a] 5)) := by
  subst hn
  exact conv_new w [a] 1 rfl
theorem Num2_any (n : Int) (h0 : 0 ≤ n) (h1 : n < 18446744073709551616) (w : World) :
    Calls Try.prog 21 #[.int .u64 n, .int .i64 2] w fun e w' => e = .returned (.string (str (be 2 n.toNat))) ∧ Below w.heap.size w w' := by
  obtain ⟨m, rfl⟩ := Int.eq_ofNat_of_zero_le h0
  rw [Int.toNat_natCast]
  have hbs := bs1
  go_enter Try.func21, Try.ntmps21
  go_wp2
  go_rounds 3
  go_wp2
  go_ret
  refine ⟨ret_str (by simp [be, u8m]), ?_⟩
  go_grown
theorem Num8_any (n : Int) (h0 : 0 ≤ n) (h1 : n < 18446744073709551616) (w : World) :
    Calls Try.prog 21 #[.int .u64 n, .int .i64 8] w fun e w' => e = .returned (.string (str (be 8 n.toNat))) ∧ Below w.heap.size w w' := by
  obtain ⟨m, rfl⟩ := Int.eq_ofNat_of_zero_le h0
  rw [Int.toNat_natCast]
  have hbs := bs1
  go_enter Try.func21, Try.ntmps21
  go_wp2
  go_rounds 9
  go_wp2
  go_ret
  refine ⟨ret_str (by simp [be, u8m]), ?_⟩
  go_grown
set_option maxRecDepth 100000 in
theorem RNew_any (n : Int) (w : World) :
    Calls Try.prog 11 #[.int .i64 n] w fun e w' => ∃ x', e = .returned (vV x') ∧ IsV w' x' (newV n) ∧ Below w.heap.size w w' := by
  obtain ⟨k, Hk⟩ : ∃ k, Hid (clampN n = k) := ⟨_, Lib.hid rfl⟩
  have Hfin := fun o => Lib.hid (newTold w n k Hk.out o)
  have HB : ∀ o p, Hid (Below w.heap.size w ((w.alloc o).alloc p)) := fun o p => Lib.hid (balloc ((Below.refl _ _).alloc (Nat.le_refl _) _) _)
  rcases (by omega : n < 1 ∨ (1 ≤ n ∧ n ≤ 8) ∨ 8 < n) with h1 | ⟨h1, h2⟩ | h1
  · obtain rfl : k = 1 := by rw [← Hk.out]; unfold clampN; omega
    have hmk := fun W => mkI W 1 (by omega) 1 rfl
    go_enter Try.func11, Try.ntmps11
    go_wp2
    exact bodyPost_ret (v := vV ⟨1, 0, none, 0, 0, none, 0, 0, some ⟨w.heap.size + 1, 0, none⟩, 1, 1⟩) (by simp [results, Try.results11, go_sem]) rfl ⟨_, rfl, (Hfin _).out.isV, (HB _ _).out⟩
  · obtain ⟨m, rfl⟩ := Int.eq_ofNat_of_zero_le (show 0 ≤ n by omega)
    obtain rfl : k = m := by rw [← Hk.out]; unfold clampN; omega
    have hmk := fun W => mkI W k (by omega) (k : Int) rfl
    have e1 : ¬ (k : Int) < 1 := by omega
    have e2 : ¬ (8 : Int) < (k : Int) := by omega
    go_enter Try.func11, Try.ntmps11
    go_wp2
    exact bodyPost_ret (v := vV ⟨k, 0, none, 0, 0, none, 0, 0, some ⟨w.heap.size + 1, 0, none⟩, k, k⟩) (by simp [results, Try.results11, go_sem]) rfl ⟨_, rfl, (Hfin _).out.isV, (HB _ _).out⟩
  · obtain rfl : k = 8 := by rw [← Hk.out]; unfold clampN; omega
    have hmk := fun W => mkI W 8 (by omega) 8 rfl
    have e1 : ¬ n < 1 := by omega
    have e2 : ¬ n ≤ 8 := by omega
    go_enter Try.func11, Try.ntmps11
    go_wp2
    exact bodyPost_ret (v := vV ⟨8, 0, none, 0, 0, none, 0, 0, some ⟨w.heap.size + 1, 0, none⟩, 8, 8⟩) (by simp [results, Try.results11, go_sem]) rfl ⟨_, rfl, (Hfin _).out.isV, (HB _ _).out⟩
set_option maxHeartbeats 4000000 in
theorem RBytes_any (w : World) (x : Vx) (V : Vw) (h : IsV w x V) (hs : V.mem.length ≤ 1000) :
    Calls Try.prog 8 #[vV x] w fun e w' => e = .returned (.tuple #[.string (str (bytesV V)), .int .i64 (chkE V)]) ∧ Below w.heap.size w w' := by
  have Hh := Lib.hid h
  clear h
  go_enter Try.func8, Try.ntmps8
  go_upto_region 1 with (fail)
  obtain ⟨w1, H_w1⟩ : ∃ w1, Hid (w.alloc (.cells (vC x) 25) = w1) := ⟨_, Lib.hid rfl⟩
  obtain ⟨b, H_b⟩ : ∃ b, Hid (w.heap.size = b) := ⟨_, Lib.hid rfl⟩
  have HX_b : Hid (BoxV w1 b x) := Lib.hid (by rw [← H_w1.out, ← H_b.out]; exact BoxV.new w x)
  have HL_w1 : Hid (Below w.heap.size w w1) := Lib.hid (by rw [← H_w1.out]; exact (Below.refl _ _).alloc (Nat.le_refl _) _)
  rw [show w.alloc (.cells #[.int .i64 x.nodes, .int .i64 x.epoch, .slice x.mA x.mn x.mc, .slice x.dA x.dn x.dc, .slice x.iA x.ir x.ic] 25) = w1 from H_w1.out]
  try rw [H_b.out]
  have HV1 := Lib.hid (Hh.out.below HL_w1.out)
  obtain ⟨v0, v1, v2, v3, v4⟩ := HX_b.out.cells
  go_wp2_with fail
  clear v0 v1 v2 v3 v4
  refine (RCheck_any w1 x V HV1.out hs).mono ?_
  rintro e w2 ⟨rfl, hb2⟩
  have HB2 : Hid (Below w.heap.size w w2) := Lib.hid (bnext HL_w1.out hb2)
  have HX2 := Lib.hid (HX_b.out.below hb2)
  have HV2 := Lib.hid (HV1.out.below hb2)
  clear hb2
  cases hc : chkB V with
  | false =>
    have he : chkE V = 1 := by unfold chkE; rw [hc]; rfl
    have hs : Hid (bytesV V = []) := Lib.hid (by unfold bytesV; rw [hc]; rfl)
    have hne : ((1 : Int) != 0) = true := rfl
    clear hc
    rw [he]
    go_wp2
    exact bodyPost_ret (v := .tuple #[.string (str []), .int .i64 1]) (by simp [results, Try.results8, go_sem]; rfl) rfl ⟨by rw [hs.out, he], HB2.out⟩
  | true =>
    have he : chkE V = 0 := by unfold chkE; rw [hc]; rfl
    have Hs : Hid (bytesV V = bytesL V) := Lib.hid (by unfold bytesV; rw [hc]; rfl)
    have HK := Lib.hid ((ok_iff V).1 hc)
    have hne : ((0 : Int) != 0) = false := rfl
    have hln : (x.nodes : Int) = V.nodes := HV2.out.nodes
    have hle : x.epoch = V.epoch := HV2.out.epoch
    have Hlm := Lib.hid HV2.out.mem.length
    have Hld := Lib.hid HV2.out.dead.length
    have Hli := Lib.hid HV2.out.incs.length
    have Hsz : Hid (V.incs.length ≤ 8 ∧ V.mem.length ≤ 8 ∧ V.dead.length ≤ 20) := Lib.hid (by have := HK.out.len; have := HK.out.n8; have := ok_len HK.out; have := HK.out.dl; omega)
    have hir : x.ir ≤ 8 := by have := Hli.out; have := Hsz.out.1; omega
    have hmn : x.mn ≤ 8 := by have := Hlm.out; have := Hsz.out.2.1; omega
    have hdn : x.dn ≤ 20 := by have := Hld.out; have := Hsz.out.2.2; omega
    clear hc
    rw [he]
    have hw1 := wr64 V.nodes (by have := HK.out.n1; omega) (by have := HK.out.n8; omega)
    have hw2 := wr64 V.epoch HK.out.e0 (by have := HK.out.e1; omega)
    go_upto_region 3 with (fail)
    have v0 : ∀ y : In (Abv w2), y.u.cell? ⟨b, 0, none⟩ = some (.int .i64 V.nodes) := fun y => by rw [← hln]; exact (HX2.out.below y.is).cells.1
    have v1 : ∀ y : In (Abv w2), y.u.cell? ⟨b, 1, none⟩ = some (.int .i64 V.epoch) := fun y => by rw [← hle]; exact (HX2.out.below y.is).cells.2.1
    refine wp_region_mix (by kernel_rfl) (Cls (Abv w2)) [(0, 0), (1, 0), (2, 0), (4, 0), (5, 0), (6, 0), (3, 1), (7, 1), (8, 0), (9, 0)] (by kernel_rfl) (cls (Below.refl _ _).drew) ?_
    repeat (refine mix0 rfl (fun K hK => ?_); go_simp; refine hK _ ?_; clear hK K)
    refine mix1 rfl (fun K hK => ?_)
    go_simp
    refine (Num2_any V.nodes (by have := HK.out.n1; omega) (by have := HK.out.n8; omega) _).mono ?_
    rintro e w3 ⟨rfl, hb3⟩
    have Hb3 : Hid (Below w2.heap.size w2 w3) := Lib.hid ((Below.refl _ _).drew.trans hb3)
    clear hb3
    refine ⟨_, rfl, hK _ _ (cls Hb3.out) ?_⟩
    clear hK K
    refine mix1 rfl (fun K hK => ?_)
    go_simp
    refine (Num8_any V.epoch HK.out.e0 (by have := HK.out.e1; omega) _).mono ?_
    rintro e w4 ⟨rfl, hb4⟩
    have Hb4 : Hid (Below w2.heap.size w2 w4) := Lib.hid (bnext Hb3.out hb4)
    clear hb4
    refine ⟨_, rfl, hK _ _ (cls Hb4.out) ?_⟩
    clear hK K
    have hl1 : ¬ 9223372036854775807 < (be 2 V.nodes.toNat).length + (be 8 V.epoch.toNat).length := by simp only [be_length]; omega
    repeat (refine mix0 rfl (fun K hK => ?_); go_simp; refine hK _ ?_; clear hK K)
    refine mixEnd ?_
    clear hl1 v0 v1 hw1 hw2
    obtain ⟨w5, Hw5⟩ : ∃ w5 : World, Hid (w4 = w5) := ⟨_, Lib.hid rfl⟩
    have HB5 : Hid (Below w.heap.size w w4) := Lib.hid (bnext HB2.out Hb4.out)
    have HX5 := Lib.hid (HX2.out.below Hb4.out)
    have HV5 := Lib.hid (HV2.out.below Hb4.out)
    rw [show be 2 V.nodes.toNat ++ be 8 V.epoch.toNat = head1 V from rfl]
    clear Hw5 w5
    obtain ⟨L1, HL1⟩ : ∃ L1, Hid (head1 V = L1) := ⟨_, Lib.hid rfl⟩
    have hlen1 : Hid (L1.length = 10) := Lib.hid (by rw [← HL1.out]; exact head1_len V)
    rw [HL1.out]
    go_upto_block 0 with (fail)
    go_cut [4, 5] (fun s _ wx => s = .string (str (L1 ++ catI V.incs)) ∧ Hid (Below w4.heap.size w4 wx))
    case first =>
      go_wp2
      go_loopw [4, 5] (fun s i wr => ∃ k : Nat, i = .int .i64 (k : Int) ∧ k ≤ x.ir ∧ s = .string (str (L1 ++ catI (V.incs.take k))) ∧ Hid (Below w4.heap.size w4 wr)) (fun _ i _ => x.ir - (intOf i).toNat)
      case atStart => exact ⟨0, rfl, Nat.zero_le _, by simp [catI], Lib.hid (Below.refl _ _)⟩
      case round =>
        obtain ⟨k, rfl, hk, rfl, HB⟩ := hrel
        have b4 := (HX5.out.below HB.out).cells.2.2.2.2
        by_cases hlt : k < x.ir
        · have hd : decide ((k : Int) < (x.ir : Int)) = true := by simpa using hlt
          obtain ⟨g, off, eA, hg, hcs⟩ := (HV5.out.incs.below HB.out).cells (by omega)
          obtain ⟨z, hz⟩ : ∃ z, V.incs[k]? = some z := ⟨_, List.getElem?_eq_getElem (by rw [Hli.out]; exact hlt)⟩
          have hc0 := hcs k z hz
          have hix := fun w => idxI (n := x.ir) (c := x.ic) eA hlt w
          have Hm := Lib.hid (catI_more hz)
          have Hz := Lib.hid (HK.out.inc z (List.mem_of_getElem? hz))
          have hw := wr64 z Hz.out.1 (by have := Hz.out.2; omega)
          obtain ⟨T, HT⟩ : ∃ T, Hid (L1 ++ catI (V.incs.take k) = T) := ⟨_, Lib.hid rfl⟩
          have hsum : ¬ 9223372036854775807 < T.length + (be 8 z.toNat).length := by
            rw [← HT.out]
            simp only [List.length_append, be_length, hlen1.out, catI_len, List.length_take]
            have := Hsz.out.1
            omega
          rw [HT.out]
          clear hcs hz eA
          go_wp2_with fail
          refine (Num8_any z Hz.out.1 (by have := Hz.out.2; omega) _).mono ?_
          rintro e w6 ⟨rfl, hb6⟩
          have HB6 : Hid (Below w4.heap.size w4 w6) := Lib.hid (bnext HB.out hb6)
          clear hb6 hix hc0 b4
          go_wp2
          go_roundw
          case rel => exact ⟨k + 1, by go_num, by omega, by rw [Hm.out, ← HT.out, List.append_assoc], HB6⟩
          case measure => simp [intOf]; omega
        · have hd : decide ((k : Int) < (x.ir : Int)) = false := by simpa using hlt
          have hk' : V.incs.take k = V.incs := List.take_of_length_le (by rw [Hli.out]; omega)
          go_wp2
          go_meet
          case rel => exact ⟨by rw [hk'], HB⟩
    case rest =>
    obtain ⟨rfl, HBa⟩ := hcut
    have HBp := HB5
    have HXp := HX5
    have HVp := HV5
    obtain ⟨w7, hw7⟩ : ∃ u : World, u = wc := ⟨_, rfl⟩
    subst hw7
    have HB7 : Hid (Below w.heap.size w w7) := Lib.hid (bnext HBp.out HBa.out)
    have HX7 := Lib.hid (HXp.out.below HBa.out)
    have HV7 := Lib.hid (HVp.out.below HBa.out)
    clear HBa HBp HXp HVp
    obtain ⟨S, HS⟩ : ∃ S, Hid (L1 ++ catI V.incs = S) := ⟨_, Lib.hid rfl⟩
    have hsl : ¬ 9223372036854775807 < S.length + (be 2 x.mn).length := by
      rw [← HS.out]
      simp only [List.length_append, be_length, hlen1.out, catI_len]
      have := Hsz.out
      omega
    rw [HS.out]
    obtain ⟨v0, v1, v2, v3, v4⟩ := HX7.out.cells
    have hw := wr64n x.mn (by omega)
    go_wp2_with fail
    refine (Num2_any (x.mn : Int) (by omega) (by omega) _).mono ?_
    rw [Int.toNat_natCast]
    rintro e u1 ⟨rfl, hb1⟩
    have HB1 : Hid (Below w.heap.size w u1) := Lib.hid (bnext HB7.out hb1)
    have HX1 := Lib.hid (HX7.out.below hb1)
    have HV1' := Lib.hid (HV7.out.below hb1)
    clear hb1 hw v0 v1 v2 v3 v4
    obtain ⟨L, HL⟩ : ∃ L, Hid (S ++ be 2 x.mn = L) := ⟨_, Lib.hid rfl⟩
    have HLh : Hid (head2 V = L) := Lib.hid (by rw [← HL.out, ← HS.out, ← Hlm.out]; rw [← HL1.out]; rfl)
    have hLlen : Hid (L.length ≤ 500) := Lib.hid (by rw [← HLh.out, head2_len]; have := Hsz.out; omega)
    go_upto_block 2 with (fail)
    rw [HL.out]
    go_cut [4, 6] (fun s _ wx => s = .string (str (L ++ catM V.mem)) ∧ Hid (Below u1.heap.size u1 wx))
    case first =>
      go_wp2
      go_loopw [4, 6] (fun s i wr => ∃ k : Nat, i = .int .i64 (k : Int) ∧ k ≤ x.mn ∧ s = .string (str (L ++ catM (V.mem.take k))) ∧ Hid (Below u1.heap.size u1 wr)) (fun _ i _ => x.mn - (intOf i).toNat)
      case atStart => exact ⟨0, rfl, Nat.zero_le _, by simp [catM], Lib.hid (Below.refl _ _)⟩
      case round =>
        obtain ⟨k, rfl, hk, rfl, HB⟩ := hrel
        have b2 := (HX1.out.below HB.out).cells.2.2.1
        by_cases hlt : k < x.mn
        · have hd : decide ((k : Int) < (x.mn : Int)) = true := by simpa using hlt
          obtain ⟨g, off, eA, hg, hcs⟩ := (HV1'.out.mem.below HB.out).cells (by omega)
          obtain ⟨m, hm⟩ : ∃ m, V.mem[k]? = some m := ⟨_, List.getElem?_eq_getElem (by rw [Hlm.out]; exact hlt)⟩
          obtain ⟨c0, c1, c2⟩ := hcs k m hm
          have hix := fun w => idxM (n := x.mn) (c := x.mc) eA hlt w
          have Hm := Lib.hid (catM_more hm)
          have Hz := Lib.hid (ok_m HK.out (List.mem_of_getElem? hm))
          have hw1 := wr64 m.1 Hz.out.1 (by have := Hz.out.2.1; omega)
          have hw2 := wr64 m.2.1 Hz.out.2.2.1 Hz.out.2.2.2
          obtain ⟨T, HT⟩ : ∃ T, Hid (L ++ catM (V.mem.take k) = T) := ⟨_, Lib.hid rfl⟩
          have hT : Hid (T.length ≤ 900) := Lib.hid (by
            rw [← HT.out]
            simp only [List.length_append, catM_len, List.length_take]
            have := hLlen.out
            have := Hsz.out
            omega)
          rw [HT.out]
          clear hcs hm eA
          go_upto_region 13 with (fail)
          clear c0 c1 c2 hix b2
          obtain ⟨u2, Hu2⟩ : ∃ u2, Hid (wr.alloc (.cells #[.int .i64 m.1, .int .i64 m.2.1, .bool m.2.2] 43) = u2) := ⟨_, Lib.hid rfl⟩
          obtain ⟨gm, Hgm⟩ : ∃ gm, Hid (wr.heap.size = gm) := ⟨_, Lib.hid rfl⟩
          have HM : Hid (BoxM u2 gm m) := Lib.hid (by rw [← Hu2.out, ← Hgm.out]; exact BoxM.new wr m)
          have HB2' : Hid (Below u1.heap.size u1 u2) := Lib.hid (by rw [← Hu2.out]; exact balloc HB.out _)
          rw [Hu2.out, Hgm.out]
          obtain ⟨rb, Hrb⟩ : ∃ r, Hid (m.2.2 = r) := ⟨_, Lib.hid rfl⟩
          cases rb with
          | true =>
            have k2 := HM.out.cells.2.2
            rw [Hrb.out] at k2
            go_upto_region 16 with (fail)
            clear k2
            have k0 : ∀ y : In (Abv u2), y.u.cell? ⟨gm, 0, none⟩ = some (.int .i64 m.1) := fun y => (HM.out.below y.is).cells.1
            have k1 : ∀ y : In (Abv u2), y.u.cell? ⟨gm, 1, none⟩ = some (.int .i64 m.2.1) := fun y => (HM.out.below y.is).cells.2.1
            refine wp_region_mix (by kernel_rfl) (Cls (Abv u2)) [(0, 0), (1, 0), (2, 0), (3, 0), (6, 0), (7, 0), (8, 0), (11, 0), (4, 1), (5, 0), (9, 1), (10, 0), (12, 1), (13, 0), (14, 0)] (by kernel_rfl) (cls (Below.refl _ _).drew) ?_
            repeat (refine mix0 rfl (fun K hK => ?_); go_simp; refine hK _ ?_; clear hK K)
            refine mix1 rfl (fun K hK => ?_)
            go_simp
            refine (Num2_any m.1 Hz.out.1 (by have := Hz.out.2.1; omega) _).mono ?_
            rintro e u3 ⟨rfl, hb3⟩
            have Hb3 : Hid (Below u2.heap.size u2 u3) := Lib.hid ((Below.refl _ _).drew.trans hb3)
            clear hb3
            refine ⟨_, rfl, hK _ _ (cls Hb3.out) ?_⟩
            clear hK K
            have q1 : ¬ 9223372036854775807 < T.length + (be 2 m.1.toNat).length := by simp only [be_length]; have := hT.out; omega
            have q2 : ¬ 9223372036854775807 < T.length + (be 2 m.1.toNat).length + (be 8 m.2.1.toNat).length := by simp only [be_length]; have := hT.out; omega
            have q2' : ¬ 9223372036854775807 < T.length + ((be 2 m.1.toNat).length + (be 8 m.2.1.toNat).length) := by simp only [be_length]; have := hT.out; omega
            have q3 : ¬ 9223372036854775807 < T.length + ((be 2 m.1.toNat).length + ((be 8 m.2.1.toNat).length + (be 2 1).length)) := by simp only [be_length]; have := hT.out; omega
            have q3' : ¬ 9223372036854775807 < T.length + (be 2 m.1.toNat).length + (be 8 m.2.1.toNat).length + (be 2 1).length := by simp only [be_length]; have := hT.out; omega
            have q4 : ¬ 9223372036854775807 < T.length + ((be 2 m.1.toNat).length + (be 8 m.2.1.toNat).length) + (be 2 1).length := by simp only [be_length]; have := hT.out; omega
            have q5 : ¬ 9223372036854775807 < T.length + (be 2 m.1.toNat).length + ((be 8 m.2.1.toNat).length + (be 2 1).length) := by simp only [be_length]; have := hT.out; omega
            have q6 : ¬ 9223372036854775807 < T.length + ((be 2 m.1.toNat).length + (be 8 m.2.1.toNat).length + (be 2 1).length) := by simp only [be_length]; have := hT.out; omega
            repeat (refine mix0 rfl (fun K hK => ?_); go_simp; refine hK _ ?_; clear hK K)
            refine mix1 rfl (fun K hK => ?_)
            go_simp
            refine (Num8_any m.2.1 Hz.out.2.2.1 (by have := Hz.out.2.2.2; omega) _).mono ?_
            rintro e u4 ⟨rfl, hb4⟩
            have Hb4' : Hid (Below u2.heap.size u2 u4) := Lib.hid (bnext Hb3.out hb4)
            clear hb4
            refine ⟨_, rfl, hK _ _ (cls Hb4'.out) ?_⟩
            clear hK K
            repeat (refine mix0 rfl (fun K hK => ?_); go_simp; refine hK _ ?_; clear hK K)
            refine mix1 rfl (fun K hK => ?_)
            go_simp
            refine (Num2_any 1 (by omega) (by omega) _).mono ?_
            rw [show (1 : Int).toNat = 1 from rfl]
            rintro e u5 ⟨rfl, hb5⟩
            have Hb5 : Hid (Below u2.heap.size u2 u5) := Lib.hid (bnext Hb4'.out hb5)
            clear hb5
            refine ⟨_, rfl, hK _ _ (cls Hb5.out) ?_⟩
            clear hK K
            repeat (refine mix0 rfl (fun K hK => ?_); go_simp; refine hK _ ?_; clear hK K)
            refine mixEnd ?_
            have HB9 : Hid (Below u1.heap.size u1 u5) := Lib.hid (bnext HB2'.out Hb5.out)
            go_wp2
            go_roundw
            case rel => exact ⟨k + 1, by go_num, by omega, by rw [Hm.out, ← HT.out, Hrb.out]; simp only [List.append_assoc]; rfl, HB9⟩
            case measure => simp [intOf]; omega
          | false =>
            have k2 := HM.out.cells.2.2
            rw [Hrb.out] at k2
            go_upto_region 16 with (fail)
            clear k2
            have k0 : ∀ y : In (Abv u2), y.u.cell? ⟨gm, 0, none⟩ = some (.int .i64 m.1) := fun y => (HM.out.below y.is).cells.1
            have k1 : ∀ y : In (Abv u2), y.u.cell? ⟨gm, 1, none⟩ = some (.int .i64 m.2.1) := fun y => (HM.out.below y.is).cells.2.1
            refine wp_region_mix (by kernel_rfl) (Cls (Abv u2)) [(0, 0), (1, 0), (2, 0), (3, 0), (6, 0), (7, 0), (8, 0), (11, 0), (4, 1), (5, 0), (9, 1), (10, 0), (12, 1), (13, 0), (14, 0)] (by kernel_rfl) (cls (Below.refl _ _).drew) ?_
            repeat (refine mix0 rfl (fun K hK => ?_); go_simp; refine hK _ ?_; clear hK K)
            refine mix1 rfl (fun K hK => ?_)
            go_simp
            refine (Num2_any m.1 Hz.out.1 (by have := Hz.out.2.1; omega) _).mono ?_
            rintro e u3 ⟨rfl, hb3⟩
            have Hb3 : Hid (Below u2.heap.size u2 u3) := Lib.hid ((Below.refl _ _).drew.trans hb3)
            clear hb3
            refine ⟨_, rfl, hK _ _ (cls Hb3.out) ?_⟩
            clear hK K
            have q1 : ¬ 9223372036854775807 < T.length + (be 2 m.1.toNat).length := by simp only [be_length]; have := hT.out; omega
            have q2 : ¬ 9223372036854775807 < T.length + (be 2 m.1.toNat).length + (be 8 m.2.1.toNat).length := by simp only [be_length]; have := hT.out; omega
            have q2' : ¬ 9223372036854775807 < T.length + ((be 2 m.1.toNat).length + (be 8 m.2.1.toNat).length) := by simp only [be_length]; have := hT.out; omega
            have q3 : ¬ 9223372036854775807 < T.length + ((be 2 m.1.toNat).length + ((be 8 m.2.1.toNat).length + (be 2 0).length)) := by simp only [be_length]; have := hT.out; omega
            have q3' : ¬ 9223372036854775807 < T.length + (be 2 m.1.toNat).length + (be 8 m.2.1.toNat).length + (be 2 0).length := by simp only [be_length]; have := hT.out; omega
            have q4 : ¬ 9223372036854775807 < T.length + ((be 2 m.1.toNat).length + (be 8 m.2.1.toNat).length) + (be 2 0).length := by simp only [be_length]; have := hT.out; omega
            have q5 : ¬ 9223372036854775807 < T.length + (be 2 m.1.toNat).length + ((be 8 m.2.1.toNat).length + (be 2 0).length) := by simp only [be_length]; have := hT.out; omega
            have q6 : ¬ 9223372036854775807 < T.length + ((be 2 m.1.toNat).length + (be 8 m.2.1.toNat).length + (be 2 0).length) := by simp only [be_length]; have := hT.out; omega
            repeat (refine mix0 rfl (fun K hK => ?_); go_simp; refine hK _ ?_; clear hK K)
            refine mix1 rfl (fun K hK => ?_)
            go_simp
            refine (Num8_any m.2.1 Hz.out.2.2.1 (by have := Hz.out.2.2.2; omega) _).mono ?_
            rintro e u4 ⟨rfl, hb4⟩
            have Hb4' : Hid (Below u2.heap.size u2 u4) := Lib.hid (bnext Hb3.out hb4)
            clear hb4
            refine ⟨_, rfl, hK _ _ (cls Hb4'.out) ?_⟩
            clear hK K
            repeat (refine mix0 rfl (fun K hK => ?_); go_simp; refine hK _ ?_; clear hK K)
            refine mix1 rfl (fun K hK => ?_)
            go_simp
            refine (Num2_any 0 (by omega) (by omega) _).mono ?_
            rw [show (0 : Int).toNat = 0 from rfl]
            rintro e u5 ⟨rfl, hb5⟩
            have Hb5 : Hid (Below u2.heap.size u2 u5) := Lib.hid (bnext Hb4'.out hb5)
            clear hb5
            refine ⟨_, rfl, hK _ _ (cls Hb5.out) ?_⟩
            clear hK K
            repeat (refine mix0 rfl (fun K hK => ?_); go_simp; refine hK _ ?_; clear hK K)
            refine mixEnd ?_
            have HB9 : Hid (Below u1.heap.size u1 u5) := Lib.hid (bnext HB2'.out Hb5.out)
            go_wp2
            go_roundw
            case rel => exact ⟨k + 1, by go_num, by omega, by rw [Hm.out, ← HT.out, Hrb.out]; simp only [List.append_assoc]; rfl, HB9⟩
            case measure => simp [intOf]; omega
        · have hd : decide ((k : Int) < (x.mn : Int)) = false := by simpa using hlt
          have hk' : V.mem.take k = V.mem := List.take_of_length_le (by rw [Hlm.out]; omega)
          go_wp2
          go_meet
          case rel => exact ⟨by rw [hk'], HB⟩
    case rest =>
    obtain ⟨rfl, HBa⟩ := hcut
    have HLx := HLh
    have hLx := hLlen
    have HBp := HB1
    have HXp := HX1
    have HVp := HV1'
    clear HLh hLlen HB1 HX1 HV1' HB7 HX7 HV7
    obtain ⟨L0, HL0⟩ : ∃ L0, Hid (L = L0) := ⟨_, Lib.hid rfl⟩
    rw [HL0.out]
    rw [HL0.out] at HLx hLx
    clear HL HS hsl HL0
    obtain ⟨w8, hw8⟩ : ∃ u : World, u = wc := ⟨_, rfl⟩
    subst hw8
    have HB8 : Hid (Below w.heap.size w w8) := Lib.hid (bnext HBp.out HBa.out)
    have HX8 := Lib.hid (HXp.out.below HBa.out)
    have HV8 := Lib.hid (HVp.out.below HBa.out)
    clear HBa HBp HXp HVp
    obtain ⟨S2, HS2⟩ : ∃ S2, Hid (L0 ++ catM V.mem = S2) := ⟨_, Lib.hid rfl⟩
    have hsl2 : ¬ 9223372036854775807 < S2.length + (be 2 x.dn).length := by
      rw [← HS2.out]
      simp only [List.length_append, be_length, catM_len]
      have := hLx.out
      have := Hsz.out
      omega
    rw [HS2.out]
    obtain ⟨v0, v1, v2, v3, v4⟩ := HX8.out.cells
    have hw := wr64n x.dn (by omega)
    go_wp2_with fail
    refine (Num2_any (x.dn : Int) (by omega) (by omega) _).mono ?_
    rw [Int.toNat_natCast]
    rintro e u1 ⟨rfl, hb1⟩
    have HB1 : Hid (Below w.heap.size w u1) := Lib.hid (bnext HB8.out hb1)
    have HX1 := Lib.hid (HX8.out.below hb1)
    have HV1' := Lib.hid (HV8.out.below hb1)
    clear hb1 hw v0 v1 v2 v3 v4
    obtain ⟨L, HL⟩ : ∃ L, Hid (S2 ++ be 2 x.dn = L) := ⟨_, Lib.hid rfl⟩
    have HLh : Hid (head3 V = L) := Lib.hid (by rw [← HL.out, ← HS2.out, ← Hld.out]; rw [← HLx.out]; rfl)
    have hLlen : Hid (L.length ≤ 500) := Lib.hid (by rw [← HLh.out, head3_len]; have := Hsz.out; omega)
    go_upto_block 4 with (fail)
    rw [HL.out]
    go_cut [4, 9] (fun s _ wx => s = .string (str (L ++ catD V.dead)) ∧ Hid (Below u1.heap.size u1 wx))
    case first =>
      go_wp2
      go_loopw [4, 9] (fun s i wr => ∃ k : Nat, i = .int .i64 (k : Int) ∧ k ≤ x.dn ∧ s = .string (str (L ++ catD (V.dead.take k))) ∧ Hid (Below u1.heap.size u1 wr)) (fun _ i _ => x.dn - (intOf i).toNat)
      case atStart => exact ⟨0, rfl, Nat.zero_le _, by simp [catD], Lib.hid (Below.refl _ _)⟩
      case round =>
        obtain ⟨k, rfl, hk, rfl, HB⟩ := hrel
        have b3 := (HX1.out.below HB.out).cells.2.2.2.1
        by_cases hlt : k < x.dn
        · have hd : decide ((k : Int) < (x.dn : Int)) = true := by simpa using hlt
          obtain ⟨g, off, eA, hg, hcs⟩ := (HV1'.out.dead.below HB.out).cells (by omega)
          obtain ⟨m, hm⟩ : ∃ m, V.dead[k]? = some m := ⟨_, List.getElem?_eq_getElem (by rw [Hld.out]; exact hlt)⟩
          obtain ⟨c0, c1, c2⟩ := hcs k m hm
          have hix := fun w => idxM (n := x.dn) (c := x.dc) eA hlt w
          have Hm := Lib.hid (catD_more hm)
          have Hz := Lib.hid (ok_d HK.out (List.mem_of_getElem? hm))
          have hw1 := wr64 m.1 Hz.out.1 (by have := Hz.out.2.1; omega)
          have hw2 := wr64 m.2.1 Hz.out.2.2.1 Hz.out.2.2.2
          obtain ⟨T, HT⟩ : ∃ T, Hid (L ++ catD (V.dead.take k) = T) := ⟨_, Lib.hid rfl⟩
          have hT : Hid (T.length ≤ 900) := Lib.hid (by
            rw [← HT.out]
            simp only [List.length_append, catD_len, List.length_take]
            have := hLlen.out
            have := Hsz.out
            omega)
          rw [HT.out]
          clear hcs hm eA
          go_upto_region 21 with (fail)
          clear b3
          have k0 : ∀ y : In (Abv wr), y.u.cell? ⟨g, off + k * 3, none⟩ = some (.int .i64 m.1) := fun y => (y.is.cell (p := ⟨g, off + k * 3, none⟩) hg).trans c0
          have k1 : ∀ y : In (Abv wr), y.u.cell? ⟨g, off + k * 3 + 1, none⟩ = some (.int .i64 m.2.1) := fun y => (y.is.cell (p := ⟨g, off + k * 3 + 1, none⟩) hg).trans c1
          have k3 : ∀ y : In (Abv wr), y.u.cell? ⟨b, 3, none⟩ = some (.slice x.dA x.dn x.dc) := fun y => (HX1.out.below (bnext HB.out y.is)).cells.2.2.2.1
          clear c0 c1 c2
          refine wp_region_mix (by kernel_rfl) (Cls (Abv wr)) [(0, 0), (1, 0), (2, 0), (3, 0), (4, 0), (5, 0), (6, 0), (7, 0), (10, 0), (11, 0), (12, 0), (13, 0), (14, 0), (15, 0), (16, 0), (8, 1), (9, 0), (17, 1), (18, 0), (19, 0)] (by kernel_rfl) (cls (Below.refl _ _).drew) ?_
          repeat (refine mix0 rfl (fun K hK => ?_); go_simp; refine hK _ ?_; clear hK K)
          refine mix1 rfl (fun K hK => ?_)
          go_simp
          refine (Num2_any m.1 Hz.out.1 (by have := Hz.out.2.1; omega) _).mono ?_
          rintro e u3 ⟨rfl, hb3⟩
          have Hb3 : Hid (Below wr.heap.size wr u3) := Lib.hid ((Below.refl _ _).drew.trans hb3)
          clear hb3
          refine ⟨_, rfl, hK _ _ (cls Hb3.out) ?_⟩
          clear hK K
          have q1 : ¬ 9223372036854775807 < T.length + (be 2 m.1.toNat).length := by simp only [be_length]; have := hT.out; omega
          have q2 : ¬ 9223372036854775807 < T.length + (be 2 m.1.toNat).length + (be 8 m.2.1.toNat).length := by simp only [be_length]; have := hT.out; omega
          have q2' : ¬ 9223372036854775807 < T.length + ((be 2 m.1.toNat).length + (be 8 m.2.1.toNat).length) := by simp only [be_length]; have := hT.out; omega
          repeat (refine mix0 rfl (fun K hK => ?_); go_simp; refine hK _ ?_; clear hK K)
          refine mix1 rfl (fun K hK => ?_)
          go_simp
          refine (Num8_any m.2.1 Hz.out.2.2.1 (by have := Hz.out.2.2.2; omega) _).mono ?_
          rintro e u4 ⟨rfl, hb4⟩
          have Hb4' : Hid (Below wr.heap.size wr u4) := Lib.hid (bnext Hb3.out hb4)
          clear hb4
          refine ⟨_, rfl, hK _ _ (cls Hb4'.out) ?_⟩
          clear hK K
          repeat (refine mix0 rfl (fun K hK => ?_); go_simp; refine hK _ ?_; clear hK K)
          refine mixEnd ?_
          have HB9 : Hid (Below u1.heap.size u1 u4) := Lib.hid (bnext HB.out Hb4'.out)
          clear k0 k1 k3 hix
          go_wp2
          go_roundw
          case rel => exact ⟨k + 1, by go_num, by omega, by rw [Hm.out, ← HT.out]; simp only [List.append_assoc], HB9⟩
          case measure => simp [intOf]; omega
        · have hd : decide ((k : Int) < (x.dn : Int)) = false := by simpa using hlt
          have hk' : V.dead.take k = V.dead := List.take_of_length_le (by rw [Hld.out]; omega)
          go_wp2
          go_meet
          case rel => exact ⟨by rw [hk'], HB⟩
    case rest =>
    obtain ⟨rfl, HBa⟩ := hcut
    have hfin : bytesL V = L ++ catD V.dead := by rw [← HLh.out]; rfl
    rw [← hfin]
    go_wp2
    exact bodyPost_ret (v := .tuple #[.string (str (bytesL V)), .int .i64 0]) (by simp [results, Try.results8, go_sem]) rfl ⟨by rw [Hs.out, he], bnext HB1.out HBa.out⟩
end Go.Proofs.Ytnbhjehaecifcaa
