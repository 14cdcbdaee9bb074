/- A view as bytes: Bytes. -/
import Derived.Test.YtnbhjehaecifcaaNum06
import Derived.Test.YtnbhjehaecifcaaKeep
import Derived.Deep.DeepCutAuto
import Derived.Deep.CutBlock
namespace Go.Proofs.Ytnbhjehaecifcaa
open Go.RowKit

def b8 (z : Int) : List UInt8 := be 8 z.toNat
def bM (m : Mb) : List UInt8 := (be 2 m.1.toNat ++ be 8 m.2.1.toNat) ++ be 2 (bN m.2.2)
def bD (m : Mb) : List UInt8 := be 2 m.1.toNat ++ be 8 m.2.1.toNat
def catI (l : List Int) : List UInt8 := (l.map b8).flatten
def catM (l : List Mb) : List UInt8 := (l.map bM).flatten
def catD (l : List Mb) : List UInt8 := (l.map bD).flatten
theorem catI_more {l : List Int} {k : Nat} {z : Int} (h : l[k]? = some z) : catI (l.take (k + 1)) = catI (l.take k) ++ be 8 z.toNat := by
  unfold catI
  rw [List.take_add_one, h]
  simp [b8]
theorem catM_more {l : List Mb} {k : Nat} {m : Mb} (h : l[k]? = some m) : catM (l.take (k + 1)) = catM (l.take k) ++ ((be 2 m.1.toNat ++ be 8 m.2.1.toNat) ++ be 2 (bN m.2.2)) := by
  unfold catM
  rw [List.take_add_one, h]
  simp [bM]
theorem catD_more {l : List Mb} {k : Nat} {m : Mb} (h : l[k]? = some m) : catD (l.take (k + 1)) = catD (l.take k) ++ (be 2 m.1.toNat ++ be 8 m.2.1.toNat) := by
  unfold catD
  rw [List.take_add_one, h]
  simp [bD]
theorem catI_len : ∀ l : List Int, (catI l).length = 8 * l.length
  | [] => rfl
  | z :: l => by
    have := catI_len l
    simp only [catI, List.map_cons, List.flatten_cons, List.length_append, List.length_cons] at *
    rw [this, b8, be_length]
    omega
theorem catM_len : ∀ l : List Mb, (catM l).length = 12 * l.length
  | [] => rfl
  | z :: l => by
    have := catM_len l
    simp only [catM, List.map_cons, List.flatten_cons, List.length_append, List.length_cons] at *
    rw [this, bM]
    simp only [List.length_append, be_length]
    omega
theorem catD_len : ∀ l : List Mb, (catD l).length = 10 * l.length
  | [] => rfl
  | z :: l => by
    have := catD_len l
    simp only [catD, List.map_cons, List.flatten_cons, List.length_append, List.length_cons] at *
    rw [this, bD]
    simp only [List.length_append, be_length]
    omega
theorem ok_m {V : Vw} (h : Ok V) {m : Mb} (hm : m ∈ V.mem) : 0 ≤ m.1 ∧ m.1 < 65536 ∧ 0 ≤ m.2.1 ∧ m.2.1 < 9223372036854775808 := by
  obtain ⟨a, b, c, d⟩ := h.mm m hm
  have := h.n8
  have := incAt_mem h a b
  omega
theorem ok_d {V : Vw} (h : Ok V) {m : Mb} (hm : m ∈ V.dead) : 0 ≤ m.1 ∧ m.1 < 65536 ∧ 0 ≤ m.2.1 ∧ m.2.1 < 9223372036854775808 := by
  obtain ⟨a, b, c, d, _⟩ := h.dd m hm
  have := h.n8
  have := incAt_mem h a b
  omega
def head1 (V : Vw) : List UInt8 := be 2 V.nodes.toNat ++ be 8 V.epoch.toNat
def head2 (V : Vw) : List UInt8 := head1 V ++ catI V.incs ++ be 2 V.mem.length
def head3 (V : Vw) : List UInt8 := head2 V ++ catM V.mem ++ be 2 V.dead.length
def bytesL (V : Vw) : List UInt8 := head3 V ++ catD V.dead
def bytesV (V : Vw) : List UInt8 := if chkB V then bytesL V else []
theorem head1_len (V : Vw) : (head1 V).length = 10 := by simp [head1, be_length]
theorem head2_len (V : Vw) : (head2 V).length = 12 + 8 * V.incs.length := by
  simp only [head2, List.length_append, head1_len, catI_len, be_length]; omega
theorem head3_len (V : Vw) : (head3 V).length = 14 + 8 * V.incs.length + 12 * V.mem.length := by
  simp only [head3, List.length_append, head2_len, catM_len, be_length]; omega
theorem bytes_len (V : Vw) : (bytesL V).length = 14 + 8 * V.incs.length + 12 * V.mem.length + 10 * V.dead.length := by
  simp only [bytesL, List.length_append, head3_len, catD_len]
set_option maxHeartbeats 4000000 in
theorem Bytes_any (w : World) (x : Vx) (V : Vw) (h : IsV w x V) :
    Calls Try.prog 7 #[vV x] w fun e w' => e = .returned (.tuple #[.string (str (bytesV V)), .int .i64 (chkE V)]) ∧ Below w.heap.size w w' := by
  have Hh := Lib.hid h
  clear h
  go_enter Try.func7, Try.ntmps7
  go_upto_region 1 with (fail)
  obtain ⟨w1, H_w1⟩ : ∃ w1, Hid (w.alloc (.cells (vC x) 25) = w1) := ⟨_, Lib.hid rfl⟩
  obtain ⟨b, H_b⟩ : ∃ b, Hid (w.heap.size = b) := ⟨_, Lib.hid rfl⟩
  have HX_b : Hid (BoxV w1 b x) := Lib.hid (by rw [← H_w1.out, ← H_b.out]; exact BoxV.new w x)
  have HL_w1 : Hid (Below w.heap.size w w1) := Lib.hid (by rw [← H_w1.out]; exact (Below.refl _ _).alloc (Nat.le_refl _) _)
  rw [show w.alloc (.cells #[.int .i64 x.nodes, .int .i64 x.epoch, .slice x.mA x.mn x.mc, .slice x.dA x.dn x.dc, .slice x.iA x.ir x.ic] 25) = w1 from H_w1.out]
  try rw [H_b.out]
  have HV1 := Lib.hid (Hh.out.below HL_w1.out)
  obtain ⟨v0, v1, v2, v3, v4⟩ := HX_b.out.cells
  go_wp2_with fail
  clear v0 v1 v2 v3 v4
  refine (Check_any w1 x V HV1.out).mono ?_
  rintro e w2 ⟨rfl, hb2⟩
  have HB2 : Hid (Below w.heap.size w w2) := Lib.hid (bnext HL_w1.out hb2)
  have HX2 := Lib.hid (HX_b.out.below hb2)
  have HV2 := Lib.hid (HV1.out.below hb2)
  clear hb2
  cases hc : chkB V with
  | false =>
    have he : chkE V = 1 := by unfold chkE; rw [hc]; rfl
    have hs : Hid (bytesV V = []) := Lib.hid (by unfold bytesV; rw [hc]; rfl)
    have hne : ((1 : Int) != 0) = true := rfl
    clear hc
    rw [he]
    go_wp2
    exact bodyPost_ret (v := .tuple #[.string (str []), .int .i64 1]) (by simp [results, Try.results7, go_sem]; rfl) rfl ⟨by rw [hs.out, he], HB2.out⟩
  | true =>
    have he : chkE V = 0 := by unfold chkE; rw [hc]; rfl
    have Hs : Hid (bytesV V = bytesL V) := Lib.hid (by unfold bytesV; rw [hc]; rfl)
    have HK := Lib.hid ((ok_iff V).1 hc)
    have hne : ((0 : Int) != 0) = false := rfl
    have hln : (x.nodes : Int) = V.nodes := HV2.out.nodes
    have hle : x.epoch = V.epoch := HV2.out.epoch
    have Hlm := Lib.hid HV2.out.mem.length
    have Hld := Lib.hid HV2.out.dead.length
    have Hli := Lib.hid HV2.out.incs.length
    have Hsz : Hid (V.incs.length ≤ 8 ∧ V.mem.length ≤ 8 ∧ V.dead.length ≤ 20) := Lib.hid (by have := HK.out.len; have := HK.out.n8; have := ok_len HK.out; have := HK.out.dl; omega)
    have hir : x.ir ≤ 8 := by have := Hli.out; have := Hsz.out.1; omega
    have hmn : x.mn ≤ 8 := by have := Hlm.out; have := Hsz.out.2.1; omega
    have hdn : x.dn ≤ 20 := by have := Hld.out; have := Hsz.out.2.2; omega
    clear hc
    rw [he]
    go_upto_region 4 with (fail)
    have v0 : ∀ y : In (Abv w2), y.u.cell? ⟨b, 0, none⟩ = some (.int .i64 V.nodes) := fun y => by rw [← hln]; exact (HX2.out.below y.is).cells.1
    have v1 : ∀ y : In (Abv w2), y.u.cell? ⟨b, 1, none⟩ = some (.int .i64 V.epoch) := fun y => by rw [← hle]; exact (HX2.out.below y.is).cells.2.1
    refine wp_region_mix (by kernel_rfl) (Cls (Abv w2)) [(0, 0), (1, 0), (3, 0), (4, 0), (2, 1), (5, 1), (6, 0), (7, 0)] (by kernel_rfl) (cls (Below.refl _ _).drew) ?_
    iterate 4 (refine mix0 rfl (fun K hK => ?_); go_simp; refine hK _ ?_; clear hK K)
    refine mix1 rfl (fun K hK => ?_)
    go_simp
    refine (two_any V.nodes (by have := HK.out.n1; omega) (by have := HK.out.n8; omega) _).mono ?_
    rintro e w3 ⟨rfl, hb3⟩
    have Hb3 : Hid (Below w2.heap.size w2 w3) := Lib.hid ((Below.refl _ _).drew.trans hb3)
    clear hb3
    refine ⟨_, rfl, hK _ _ (cls Hb3.out) ?_⟩
    clear hK K
    refine mix1 rfl (fun K hK => ?_)
    go_simp
    refine (eight_any V.epoch HK.out.e0 (by have := HK.out.e1; omega) _).mono ?_
    rintro e w4 ⟨rfl, hb4⟩
    have Hb4 : Hid (Below w2.heap.size w2 w4) := Lib.hid (bnext Hb3.out hb4)
    clear hb4
    refine ⟨_, rfl, hK _ _ (cls Hb4.out) ?_⟩
    clear hK K
    have hl1 : ¬ 9223372036854775807 < (be 2 V.nodes.toNat).length + (be 8 V.epoch.toNat).length := by simp only [be_length]; omega
    iterate 2 (refine mix0 rfl (fun K hK => ?_); go_simp; refine hK _ ?_; clear hK K)
    refine mixEnd ?_
    clear hl1 v0 v1
    obtain ⟨w5, Hw5⟩ : ∃ w5 : World, Hid (w4 = w5) := ⟨_, Lib.hid rfl⟩
    have HB5 : Hid (Below w.heap.size w w4) := Lib.hid (bnext HB2.out Hb4.out)
    have HX5 := Lib.hid (HX2.out.below Hb4.out)
    have HV5 := Lib.hid (HV2.out.below Hb4.out)
    rw [show be 2 V.nodes.toNat ++ be 8 V.epoch.toNat = head1 V from rfl]
    clear Hw5 w5
    obtain ⟨L1, HL1⟩ : ∃ L1, Hid (head1 V = L1) := ⟨_, Lib.hid rfl⟩
    have hlen1 : Hid (L1.length = 10) := Lib.hid (by rw [← HL1.out]; exact head1_len V)
    rw [HL1.out]
    obtain ⟨v0, v1, v2, v3, v4⟩ := HX5.out.cells
    go_upto_block 0 with (fail)
    clear v0 v1 v2 v3 v4
    go_cut [5, 7, 27] (fun s _ _ wx => s = .string (str (L1 ++ catI V.incs)) ∧ Hid (Below w4.heap.size w4 wx))
    case first =>
      go_wp2
      go_loopw [5, 7, 27] (fun s _ i wr => ∃ k : Nat, i = .int .i64 (k : Int) ∧ k ≤ x.ir ∧ s = .string (str (L1 ++ catI (V.incs.take k))) ∧ Hid (Below w4.heap.size w4 wr)) (fun _ _ i _ => x.ir - (intOf i).toNat)
      case atStart => exact ⟨0, rfl, Nat.zero_le _, by simp [catI], Lib.hid (Below.refl _ _)⟩
      case round =>
        obtain ⟨k, rfl, hk, rfl, HB⟩ := hrel
        by_cases hlt : k < x.ir
        · have hd : decide ((k : Int) < (x.ir : Int)) = true := by simpa using hlt
          obtain ⟨g, off, eA, hg, hcs⟩ := (HV5.out.incs.below HB.out).cells (by omega)
          obtain ⟨z, hz⟩ : ∃ z, V.incs[k]? = some z := ⟨_, List.getElem?_eq_getElem (by rw [Hli.out]; exact hlt)⟩
          have hc0 := hcs k z hz
          have hix := fun w => idxI (n := x.ir) (c := x.ic) eA hlt w
          have Hm := Lib.hid (catI_more hz)
          have Hz := Lib.hid (HK.out.inc z (List.mem_of_getElem? hz))
          obtain ⟨T, HT⟩ : ∃ T, Hid (L1 ++ catI (V.incs.take k) = T) := ⟨_, Lib.hid rfl⟩
          have hsum : ¬ 9223372036854775807 < T.length + (be 8 z.toNat).length := by
            rw [← HT.out]
            simp only [List.length_append, be_length, hlen1.out, catI_len, List.length_take]
            have := Hsz.out.1
            omega
          rw [HT.out]
          clear hcs hz eA
          go_wp2_with fail
          refine (eight_any z Hz.out.1 (by have := Hz.out.2; omega) _).mono ?_
          rintro e w6 ⟨rfl, hb6⟩
          have HB6 : Hid (Below w4.heap.size w4 w6) := Lib.hid (bnext HB.out hb6)
          clear hb6 hix hc0
          go_wp2
          go_roundw
          case rel => exact ⟨k + 1, by go_num, by omega, by rw [Hm.out, ← HT.out, List.append_assoc], HB6⟩
          case measure => simp [intOf]; omega
        · have hd : decide ((k : Int) < (x.ir : Int)) = false := by simpa using hlt
          have hk' : V.incs.take k = V.incs := List.take_of_length_le (by rw [Hli.out]; omega)
          go_wp2
          go_meet
          case rel => exact ⟨by rw [hk'], HB⟩
    case rest =>
    obtain ⟨rfl, HBa⟩ := hcut
    have HBp := HB5
    have HXp := HX5
    have HVp := HV5
    obtain ⟨w7, hw7⟩ : ∃ u : World, u = wc := ⟨_, rfl⟩
    subst hw7
    have HB7 : Hid (Below w.heap.size w w7) := Lib.hid (bnext HBp.out HBa.out)
    have HX7 := Lib.hid (HXp.out.below HBa.out)
    have HV7 := Lib.hid (HVp.out.below HBa.out)
    clear HBa HBp HXp HVp
    obtain ⟨S, HS⟩ : ∃ S, Hid (L1 ++ catI V.incs = S) := ⟨_, Lib.hid rfl⟩
    have hsl : ¬ 9223372036854775807 < S.length + (be 2 x.mn).length := by
      rw [← HS.out]
      simp only [List.length_append, be_length, hlen1.out, catI_len]
      have := Hsz.out
      omega
    rw [HS.out]
    obtain ⟨v0, v1, v2, v3, v4⟩ := HX7.out.cells
    go_wp2_with fail
    refine (two_any (x.mn : Int) (by omega) (by omega) _).mono ?_
    rw [Int.toNat_natCast]
    rintro e u1 ⟨rfl, hb1⟩
    have HB1 : Hid (Below w.heap.size w u1) := Lib.hid (bnext HB7.out hb1)
    have HX1 := Lib.hid (HX7.out.below hb1)
    have HV1' := Lib.hid (HV7.out.below hb1)
    clear hb1 v0 v1 v2 v3 v4
    obtain ⟨L, HL⟩ : ∃ L, Hid (S ++ be 2 x.mn = L) := ⟨_, Lib.hid rfl⟩
    have HLh : Hid (head2 V = L) := Lib.hid (by rw [← HL.out, ← HS.out, ← Hlm.out]; rw [← HL1.out]; rfl)
    have hLlen : Hid (L.length ≤ 500) := Lib.hid (by rw [← HLh.out, head2_len]; have := Hsz.out; omega)
    obtain ⟨v0, v1, v2, v3, v4⟩ := HX1.out.cells
    go_upto_block 2 with (fail)
    rw [HL.out]
    clear v0 v1 v2 v3 v4
    go_cut [5, 9, 45] (fun s _ _ wx => s = .string (str (L ++ catM V.mem)) ∧ Hid (Below u1.heap.size u1 wx))
    case first =>
      go_wp2
      go_loopw [5, 9, 45] (fun s _ i wr => ∃ k : Nat, i = .int .i64 (k : Int) ∧ k ≤ x.mn ∧ s = .string (str (L ++ catM (V.mem.take k))) ∧ Hid (Below u1.heap.size u1 wr)) (fun _ _ i _ => x.mn - (intOf i).toNat)
      case atStart => exact ⟨0, rfl, Nat.zero_le _, by simp [catM], Lib.hid (Below.refl _ _)⟩
      case round =>
        obtain ⟨k, rfl, hk, rfl, HB⟩ := hrel
        by_cases hlt : k < x.mn
        · have hd : decide ((k : Int) < (x.mn : Int)) = true := by simpa using hlt
          obtain ⟨g, off, eA, hg, hcs⟩ := (HV1'.out.mem.below HB.out).cells (by omega)
          obtain ⟨m, hm⟩ : ∃ m, V.mem[k]? = some m := ⟨_, List.getElem?_eq_getElem (by rw [Hlm.out]; exact hlt)⟩
          obtain ⟨c0, c1, c2⟩ := hcs k m hm
          have hix := fun w => idxM (n := x.mn) (c := x.mc) eA hlt w
          have Hm := Lib.hid (catM_more hm)
          have Hz := Lib.hid (ok_m HK.out (List.mem_of_getElem? hm))
          obtain ⟨T, HT⟩ : ∃ T, Hid (L ++ catM (V.mem.take k) = T) := ⟨_, Lib.hid rfl⟩
          have hT : Hid (T.length ≤ 900) := Lib.hid (by
            rw [← HT.out]
            simp only [List.length_append, catM_len, List.length_take]
            have := hLlen.out
            have := Hsz.out
            omega)
          rw [HT.out]
          clear hcs hm eA
          go_upto_region 14 with (fail)
          clear c0 c1 c2 hix
          obtain ⟨u2, Hu2⟩ : ∃ u2, Hid (wr.alloc (.cells #[.int .i64 m.1, .int .i64 m.2.1, .bool m.2.2] 43) = u2) := ⟨_, Lib.hid rfl⟩
          obtain ⟨gm, Hgm⟩ : ∃ gm, Hid (wr.heap.size = gm) := ⟨_, Lib.hid rfl⟩
          have HM : Hid (BoxM u2 gm m) := Lib.hid (by rw [← Hu2.out, ← Hgm.out]; exact BoxM.new wr m)
          have HB2' : Hid (Below u1.heap.size u1 u2) := Lib.hid (by rw [← Hu2.out]; exact balloc HB.out _)
          rw [Hu2.out, Hgm.out]
          have k0 : ∀ y : In (Abv u2), y.u.cell? ⟨gm, 0, none⟩ = some (.int .i64 m.1) := fun y => (HM.out.below y.is).cells.1
          have k1 : ∀ y : In (Abv u2), y.u.cell? ⟨gm, 1, none⟩ = some (.int .i64 m.2.1) := fun y => (HM.out.below y.is).cells.2.1
          have k2 : ∀ y : In (Abv u2), y.u.cell? ⟨gm, 2, none⟩ = some (.bool m.2.2) := fun y => (HM.out.below y.is).cells.2.2
          refine wp_region_mix (by kernel_rfl) (Cls (Abv u2)) [(0, 0), (1, 0), (2, 0), (4, 0), (5, 0), (8, 0), (9, 0), (3, 1), (6, 1), (7, 0), (10, 1), (11, 0), (12, 0), (13, 0)] (by kernel_rfl) (cls (Below.refl _ _).drew) ?_
          iterate 7 (refine mix0 rfl (fun K hK => ?_); go_simp; refine hK _ ?_; clear hK K)
          refine mix1 rfl (fun K hK => ?_)
          go_simp
          refine (two_any m.1 Hz.out.1 Hz.out.2.1 _).mono ?_
          rintro e u3 ⟨rfl, hb3⟩
          have Hb3 : Hid (Below u2.heap.size u2 u3) := Lib.hid ((Below.refl _ _).drew.trans hb3)
          clear hb3
          refine ⟨_, rfl, hK _ _ (cls Hb3.out) ?_⟩
          clear hK K
          refine mix1 rfl (fun K hK => ?_)
          go_simp
          refine (eight_any m.2.1 Hz.out.2.2.1 Hz.out.2.2.2 _).mono ?_
          rintro e u4 ⟨rfl, hb4⟩
          have Hb4' : Hid (Below u2.heap.size u2 u4) := Lib.hid (bnext Hb3.out hb4)
          clear hb4
          refine ⟨_, rfl, hK _ _ (cls Hb4'.out) ?_⟩
          clear hK K
          have q1 : ¬ 9223372036854775807 < (be 2 m.1.toNat).length + (be 8 m.2.1.toNat).length := by simp only [be_length]; omega
          have q2 : ¬ 9223372036854775807 < (be 2 m.1.toNat).length + (be 8 m.2.1.toNat).length + (be 2 (bN m.2.2)).length := by simp only [be_length]; omega
          have q3 : ¬ 9223372036854775807 < T.length + ((be 2 m.1.toNat).length + ((be 8 m.2.1.toNat).length + (be 2 (bN m.2.2)).length)) := by simp only [be_length]; have := hT.out; omega
          iterate 1 (refine mix0 rfl (fun K hK => ?_); go_simp; refine hK _ ?_; clear hK K)
          refine mix1 rfl (fun K hK => ?_)
          go_simp
          refine (mark_any m.2.2 _).mono ?_
          rintro e u5 ⟨rfl, hb5⟩
          have Hb5 : Hid (Below u2.heap.size u2 u5) := Lib.hid (bnext Hb4'.out hb5)
          clear hb5
          refine ⟨_, rfl, hK _ _ (cls Hb5.out) ?_⟩
          clear hK K
          iterate 3 (refine mix0 rfl (fun K hK => ?_); go_simp; refine hK _ ?_; clear hK K)
          refine mixEnd ?_
          have HB9 : Hid (Below u1.heap.size u1 u5) := Lib.hid (bnext HB2'.out Hb5.out)
          go_wp2
          go_roundw
          case rel => exact ⟨k + 1, by go_num, by omega, by rw [Hm.out, ← HT.out]; simp only [List.append_assoc], HB9⟩
          case measure => simp [intOf]; omega
        · have hd : decide ((k : Int) < (x.mn : Int)) = false := by simpa using hlt
          have hk' : V.mem.take k = V.mem := List.take_of_length_le (by rw [Hlm.out]; omega)
          go_wp2
          go_meet
          case rel => exact ⟨by rw [hk'], HB⟩
    case rest =>
    obtain ⟨rfl, HBa⟩ := hcut
    have HLx := HLh
    have hLx := hLlen
    have HBp := HB1
    have HXp := HX1
    have HVp := HV1'
    clear HLh hLlen HB1 HX1 HV1' HB7 HX7 HV7
    obtain ⟨L0, HL0⟩ : ∃ L0, Hid (L = L0) := ⟨_, Lib.hid rfl⟩
    rw [HL0.out]
    rw [HL0.out] at HLx hLx
    clear HL HS hsl HL0
    obtain ⟨w8, hw8⟩ : ∃ u : World, u = wc := ⟨_, rfl⟩
    subst hw8
    have HB8 : Hid (Below w.heap.size w w8) := Lib.hid (bnext HBp.out HBa.out)
    have HX8 := Lib.hid (HXp.out.below HBa.out)
    have HV8 := Lib.hid (HVp.out.below HBa.out)
    clear HBa HBp HXp HVp
    obtain ⟨S2, HS2⟩ : ∃ S2, Hid (L0 ++ catM V.mem = S2) := ⟨_, Lib.hid rfl⟩
    have hsl2 : ¬ 9223372036854775807 < S2.length + (be 2 x.dn).length := by
      rw [← HS2.out]
      simp only [List.length_append, be_length, catM_len]
      have := hLx.out
      have := Hsz.out
      omega
    rw [HS2.out]
    obtain ⟨v0, v1, v2, v3, v4⟩ := HX8.out.cells
    go_wp2_with fail
    refine (two_any (x.dn : Int) (by omega) (by omega) _).mono ?_
    rw [Int.toNat_natCast]
    rintro e u1 ⟨rfl, hb1⟩
    have HB1 : Hid (Below w.heap.size w u1) := Lib.hid (bnext HB8.out hb1)
    have HX1 := Lib.hid (HX8.out.below hb1)
    have HV1' := Lib.hid (HV8.out.below hb1)
    clear hb1 v0 v1 v2 v3 v4
    obtain ⟨L, HL⟩ : ∃ L, Hid (S2 ++ be 2 x.dn = L) := ⟨_, Lib.hid rfl⟩
    have HLh : Hid (head3 V = L) := Lib.hid (by rw [← HL.out, ← HS2.out, ← Hld.out]; rw [← HLx.out]; rfl)
    have hLlen : Hid (L.length ≤ 500) := Lib.hid (by rw [← HLh.out, head3_len]; have := Hsz.out; omega)
    obtain ⟨v0, v1, v2, v3, v4⟩ := HX1.out.cells
    go_upto_block 4 with (fail)
    rw [HL.out]
    clear v0 v1 v2 v3 v4
    go_cut [5, 11, 72] (fun s _ _ wx => s = .string (str (L ++ catD V.dead)) ∧ Hid (Below u1.heap.size u1 wx))
    case first =>
      go_wp2
      go_loopw [5, 11, 72] (fun s _ i wr => ∃ k : Nat, i = .int .i64 (k : Int) ∧ k ≤ x.dn ∧ s = .string (str (L ++ catD (V.dead.take k))) ∧ Hid (Below u1.heap.size u1 wr)) (fun _ _ i _ => x.dn - (intOf i).toNat)
      case atStart => exact ⟨0, rfl, Nat.zero_le _, by simp [catD], Lib.hid (Below.refl _ _)⟩
      case round =>
        obtain ⟨k, rfl, hk, rfl, HB⟩ := hrel
        by_cases hlt : k < x.dn
        · have hd : decide ((k : Int) < (x.dn : Int)) = true := by simpa using hlt
          obtain ⟨g, off, eA, hg, hcs⟩ := (HV1'.out.dead.below HB.out).cells (by omega)
          obtain ⟨m, hm⟩ : ∃ m, V.dead[k]? = some m := ⟨_, List.getElem?_eq_getElem (by rw [Hld.out]; exact hlt)⟩
          obtain ⟨c0, c1, c2⟩ := hcs k m hm
          have hix := fun w => idxM (n := x.dn) (c := x.dc) eA hlt w
          have Hm := Lib.hid (catD_more hm)
          have Hz := Lib.hid (ok_d HK.out (List.mem_of_getElem? hm))
          obtain ⟨T, HT⟩ : ∃ T, Hid (L ++ catD (V.dead.take k) = T) := ⟨_, Lib.hid rfl⟩
          have hT : Hid (T.length ≤ 900) := Lib.hid (by
            rw [← HT.out]
            simp only [List.length_append, catD_len, List.length_take]
            have := hLlen.out
            have := Hsz.out
            omega)
          rw [HT.out]
          clear hcs hm eA
          go_upto_region 20 with (fail)
          clear c0 c1 c2 hix
          obtain ⟨u2, Hu2⟩ : ∃ u2, Hid (wr.alloc (.cells #[.int .i64 m.1, .int .i64 m.2.1, .bool m.2.2] 43) = u2) := ⟨_, Lib.hid rfl⟩
          obtain ⟨gm, Hgm⟩ : ∃ gm, Hid (wr.heap.size = gm) := ⟨_, Lib.hid rfl⟩
          have HM : Hid (BoxM u2 gm m) := Lib.hid (by rw [← Hu2.out, ← Hgm.out]; exact BoxM.new wr m)
          have HB2' : Hid (Below u1.heap.size u1 u2) := Lib.hid (by rw [← Hu2.out]; exact balloc HB.out _)
          rw [Hu2.out, Hgm.out]
          have k0 : ∀ y : In (Abv u2), y.u.cell? ⟨gm, 0, none⟩ = some (.int .i64 m.1) := fun y => (HM.out.below y.is).cells.1
          have k1 : ∀ y : In (Abv u2), y.u.cell? ⟨gm, 1, none⟩ = some (.int .i64 m.2.1) := fun y => (HM.out.below y.is).cells.2.1
          have k2 : ∀ y : In (Abv u2), y.u.cell? ⟨gm, 2, none⟩ = some (.bool m.2.2) := fun y => (HM.out.below y.is).cells.2.2
          refine wp_region_mix (by kernel_rfl) (Cls (Abv u2)) [(0, 0), (1, 0), (2, 0), (4, 0), (5, 0), (3, 1), (6, 1), (7, 0), (8, 0), (9, 0)] (by kernel_rfl) (cls (Below.refl _ _).drew) ?_
          iterate 5 (refine mix0 rfl (fun K hK => ?_); go_simp; refine hK _ ?_; clear hK K)
          refine mix1 rfl (fun K hK => ?_)
          go_simp
          refine (two_any m.1 Hz.out.1 Hz.out.2.1 _).mono ?_
          rintro e u3 ⟨rfl, hb3⟩
          have Hb3 : Hid (Below u2.heap.size u2 u3) := Lib.hid ((Below.refl _ _).drew.trans hb3)
          clear hb3
          refine ⟨_, rfl, hK _ _ (cls Hb3.out) ?_⟩
          clear hK K
          refine mix1 rfl (fun K hK => ?_)
          go_simp
          refine (eight_any m.2.1 Hz.out.2.2.1 Hz.out.2.2.2 _).mono ?_
          rintro e u4 ⟨rfl, hb4⟩
          have Hb4' : Hid (Below u2.heap.size u2 u4) := Lib.hid (bnext Hb3.out hb4)
          clear hb4
          refine ⟨_, rfl, hK _ _ (cls Hb4'.out) ?_⟩
          clear hK K
          have q1 : ¬ 9223372036854775807 < (be 2 m.1.toNat).length + (be 8 m.2.1.toNat).length := by simp only [be_length]; omega
          have q3 : ¬ 9223372036854775807 < T.length + ((be 2 m.1.toNat).length + (be 8 m.2.1.toNat).length) := by simp only [be_length]; have := hT.out; omega
          iterate 3 (refine mix0 rfl (fun K hK => ?_); go_simp; refine hK _ ?_; clear hK K)
          have Hb5 := Hb4'
          refine mixEnd ?_
          have HB9 : Hid (Below u1.heap.size u1 u4) := Lib.hid (bnext HB2'.out Hb5.out)
          go_wp2
          go_roundw
          case rel => exact ⟨k + 1, by go_num, by omega, by rw [Hm.out, ← HT.out]; simp only [List.append_assoc], HB9⟩
          case measure => simp [intOf]; omega
        · have hd : decide ((k : Int) < (x.dn : Int)) = false := by simpa using hlt
          have hk' : V.dead.take k = V.dead := List.take_of_length_le (by rw [Hld.out]; omega)
          go_wp2
          go_meet
          case rel => exact ⟨by rw [hk'], HB⟩
    case rest =>
    obtain ⟨rfl, HBa⟩ := hcut
    have hfin : bytesL V = L ++ catD V.dead := by rw [← HLh.out]; rfl
    rw [← hfin]
    go_wp2
    exact bodyPost_ret (v := .tuple #[.string (str (bytesL V)), .int .i64 0]) (by simp [results, Try.results7, go_sem]) rfl ⟨by rw [Hs.out, he], bnext HB1.out HBa.out⟩
end Go.Proofs.Ytnbhjehaecifcaa
