/- A note's bytes, and the note that is read of bytes (plain); what the program's and the document's functions for these give, and who a resource is given to. -/
import Derived.Test.YthpmodohfjjjcaaHw10
import Derived.Test.YthpmodohfjjjcaaPk10
import Derived.Test.YthpmodohfjjjcaaRef8
import Derived.Laws.ResultCell
namespace Go.Proofs.Ythpmodohfjjjcaa
open Go.RowKit

def bytesN (n : Nt) : List UInt8 := be 2 n.kind.toNat ++ (be 8 n.epoch.toNat ++ (be 2 n.res.toNat ++ (be 2 n.mode.toNat ++ be 8 n.seq.toNat)))
def bytesV (n : Nt) : List UInt8 := if mayB n then bytesN n else []
def bytesE (n : Nt) : Int := if mayB n then 0 else 1
def nL1 (s : List UInt8) : List UInt8 := takeL s 2
def nL2 (s : List UInt8) : List UInt8 := eightL (nL1 s) 1099511627776
def nL3 (s : List UInt8) : List UInt8 := takeL (nL2 s) 2
def nL4 (s : List UInt8) : List UInt8 := takeL (nL3 s) 2
def nL5 (s : List UInt8) : List UInt8 := eightL (nL4 s) 1099511627776
def nB1 (s : List UInt8) : Bool := takeB s false 2
def nB2 (s : List UInt8) : Bool := eightB (nL1 s) (nB1 s) 1099511627776
def nB3 (s : List UInt8) : Bool := takeB (nL2 s) (nB2 s) 2
def nB4 (s : List UInt8) : Bool := takeB (nL3 s) (nB3 s) 2
def nB5 (s : List UInt8) : Bool := eightB (nL4 s) (nB4 s) 1099511627776
def rawN (s : List UInt8) : Nt := ⟨(textN s : Int), (eightV (nL1 s) 1099511627776 : Int), (textN (nL2 s) : Int), (textN (nL3 s) : Int), (eightV (nL4 s) 1099511627776 : Int)⟩
def okN (s : List UInt8) : Bool := endE (nL5 s) (nB5 s) == 0 && mayB (rawN s)
def readN (s : List UInt8) : Nt := if okN s then rawN s else nt0
def readE (s : List UInt8) : Int := if okN s then 0 else 10
theorem mayB_bounds {n : Nt} (h : mayB n = true) : (1 ≤ n.kind ∧ n.kind ≤ 5) ∧ (0 ≤ n.epoch ∧ n.epoch ≤ 1099511627776) ∧ (0 ≤ n.res ∧ n.res < 16) ∧ (0 ≤ n.mode ∧ n.mode ≤ 2) ∧ 0 ≤ n.seq ∧ n.seq ≤ 1099511627776 := by
  simp only [mayB, knB, cntB, amgB, Bool.and_eq_true, decide_eq_true_eq] at h
  obtain ⟨⟨⟨⟨h1, h2⟩, h3⟩, hmo⟩, h5⟩ := h
  refine ⟨h1, h2, h3, ?_, h5⟩
  simp only [modeB, Bool.or_eq_true, beq_iff_eq] at hmo
  omega
theorem read_bytesN {n : Nt} (h : mayB n = true) : okN (bytesN n) = true ∧ rawN (bytesN n) = n := by
  obtain ⟨⟨k0, k1⟩, ⟨e0, e1⟩, ⟨r0, r1⟩, ⟨m0, m1⟩, s0, s1⟩ := mayB_bounds h
  obtain ⟨kd, ep, rs, mo, sq⟩ := n
  dsimp only at k0 k1 e0 e1 r0 r1 m0 m1 s0 s1
  obtain ⟨kd, rfl⟩ := Int.eq_ofNat_of_zero_le (show 0 ≤ kd by omega)
  obtain ⟨ep, rfl⟩ := Int.eq_ofNat_of_zero_le e0
  obtain ⟨rs, rfl⟩ := Int.eq_ofNat_of_zero_le r0
  obtain ⟨mo, rfl⟩ := Int.eq_ofNat_of_zero_le m0
  obtain ⟨sq, rfl⟩ := Int.eq_ofNat_of_zero_le s0
  obtain ⟨A1, B1, C1⟩ := take_put 2 kd (be 8 ep ++ (be 2 rs ++ (be 2 mo ++ be 8 sq))) (by omega)
  obtain ⟨A2, B2, C2⟩ := eight_put ep (be 2 rs ++ (be 2 mo ++ be 8 sq)) 1099511627776 (by omega) (by omega)
  obtain ⟨A3, B3, C3⟩ := take_put 2 rs (be 2 mo ++ be 8 sq) (by omega)
  obtain ⟨A4, B4, C4⟩ := take_put 2 mo (be 8 sq) (by omega)
  obtain ⟨A5, B5, C5⟩ := eight_put sq [] 1099511627776 (by omega) (by omega)
  rw [List.append_nil] at A5 B5 C5
  have hs : bytesN ⟨(kd : Int), (ep : Int), (rs : Int), (mo : Int), (sq : Int)⟩ = be 2 kd ++ (be 8 ep ++ (be 2 rs ++ (be 2 mo ++ be 8 sq))) := rfl
  rw [hs]
  have l1 : nL1 (be 2 kd ++ (be 8 ep ++ (be 2 rs ++ (be 2 mo ++ be 8 sq)))) = be 8 ep ++ (be 2 rs ++ (be 2 mo ++ be 8 sq)) := B1
  have l2 : nL2 (be 2 kd ++ (be 8 ep ++ (be 2 rs ++ (be 2 mo ++ be 8 sq)))) = be 2 rs ++ (be 2 mo ++ be 8 sq) := by rw [nL2, l1, B2]
  have l3 : nL3 (be 2 kd ++ (be 8 ep ++ (be 2 rs ++ (be 2 mo ++ be 8 sq)))) = be 2 mo ++ be 8 sq := by rw [nL3, l2, B3]
  have l4 : nL4 (be 2 kd ++ (be 8 ep ++ (be 2 rs ++ (be 2 mo ++ be 8 sq)))) = be 8 sq := by rw [nL4, l3, B4]
  have l5 : nL5 (be 2 kd ++ (be 8 ep ++ (be 2 rs ++ (be 2 mo ++ be 8 sq)))) = [] := by rw [nL5, l4, B5]
  have b5 : nB5 (be 2 kd ++ (be 8 ep ++ (be 2 rs ++ (be 2 mo ++ be 8 sq)))) = false := by rw [nB5, nB4, nB3, nB2, nB1, l1, l2, l3, l4, C1, C2, C3, C4, C5]
  have hr : rawN (be 2 kd ++ (be 8 ep ++ (be 2 rs ++ (be 2 mo ++ be 8 sq)))) = ⟨(kd : Int), (ep : Int), (rs : Int), (mo : Int), (sq : Int)⟩ := by
    rw [rawN, l1, l2, l3, l4, A2, A5, textN, textN, textN, A1, A3, A4]
  refine ⟨?_, hr⟩
  rw [okN, l5, b5, hr, h]
  rfl
theorem NtF.put0 {w : World} {p : Nat} {n : Nt} (h : NtF w p n) (v : Int) : NtF (w.setCell ⟨p, 0, none⟩ (.int .i64 v)) p ⟨v, n.epoch, n.res, n.mode, n.seq⟩ :=
  ⟨⟨set_same h.is.c0, set_other (by simp) h.is.c1, set_other (by simp) h.is.c2, set_other (by simp) h.is.c3, set_other (by simp) h.is.c4⟩, set_frozen h.f0, set_frozen h.f1, set_frozen h.f2, set_frozen h.f3, set_frozen h.f4⟩
theorem NtF.put1 {w : World} {p : Nat} {n : Nt} (h : NtF w p n) (v : Int) : NtF (w.setCell ⟨p, 1, none⟩ (.int .i64 v)) p ⟨n.kind, v, n.res, n.mode, n.seq⟩ :=
  ⟨⟨set_other (by simp) h.is.c0, set_same h.is.c1, set_other (by simp) h.is.c2, set_other (by simp) h.is.c3, set_other (by simp) h.is.c4⟩, set_frozen h.f0, set_frozen h.f1, set_frozen h.f2, set_frozen h.f3, set_frozen h.f4⟩
theorem NtF.put2 {w : World} {p : Nat} {n : Nt} (h : NtF w p n) (v : Int) : NtF (w.setCell ⟨p, 2, none⟩ (.int .i64 v)) p ⟨n.kind, n.epoch, v, n.mode, n.seq⟩ :=
  ⟨⟨set_other (by simp) h.is.c0, set_other (by simp) h.is.c1, set_same h.is.c2, set_other (by simp) h.is.c3, set_other (by simp) h.is.c4⟩, set_frozen h.f0, set_frozen h.f1, set_frozen h.f2, set_frozen h.f3, set_frozen h.f4⟩
theorem NtF.put3 {w : World} {p : Nat} {n : Nt} (h : NtF w p n) (v : Int) : NtF (w.setCell ⟨p, 3, none⟩ (.int .i64 v)) p ⟨n.kind, n.epoch, n.res, v, n.seq⟩ :=
  ⟨⟨set_other (by simp) h.is.c0, set_other (by simp) h.is.c1, set_other (by simp) h.is.c2, set_same h.is.c3, set_other (by simp) h.is.c4⟩, set_frozen h.f0, set_frozen h.f1, set_frozen h.f2, set_frozen h.f3, set_frozen h.f4⟩
theorem NtF.put4 {w : World} {p : Nat} {n : Nt} (h : NtF w p n) (v : Int) : NtF (w.setCell ⟨p, 4, none⟩ (.int .i64 v)) p ⟨n.kind, n.epoch, n.res, n.mode, v⟩ :=
  ⟨⟨set_other (by simp) h.is.c0, set_other (by simp) h.is.c1, set_other (by simp) h.is.c2, set_other (by simp) h.is.c3, set_same h.is.c4⟩, set_frozen h.f0, set_frozen h.f1, set_frozen h.f2, set_frozen h.f3, set_frozen h.f4⟩
set_option maxRecDepth 100000 in
set_option maxHeartbeats 4000000 in
theorem xmay_any (w : World) (n : Nt) : Calls Try.prog 31 #[ntV n] w fun e w' => e = .returned (.bool (mayB n)) ∧ Below w.heap.size w w' := by
  obtain ⟨W, HW⟩ : ∃ x, Hid (w.alloc (.cells #[.int .i64 n.kind, .int .i64 n.epoch, .int .i64 n.res, .int .i64 n.mode, .int .i64 n.seq] 23) = x) := ⟨_, Lib.hid rfl⟩
  have HB : Hid (Below w.heap.size w W) := Lib.hid (by rw [← HW.out]; exact balloc (Below.refl _ _) _)
  have HN : Hid (NtAt W w.heap.size n) := Lib.hid (by rw [← HW.out]; exact NtAt.new w n _)
  obtain ⟨p, Hp⟩ : ∃ x, Hid (w.heap.size = x) := ⟨_, Lib.hid rfl⟩
  rw [Hp.out] at HN
  obtain ⟨mb, Hmb⟩ : ∃ x, Hid (modeB n.mode = x) := ⟨_, Lib.hid rfl⟩
  have c0 := HN.out.c0
  have c1 := HN.out.c1
  have c2 := HN.out.c2
  have c3 := HN.out.c3
  have c4 := HN.out.c4
  go_enter Try.func31, Try.ntmps31
  go_wp2_with fail
  rw [HW.out, Hp.out]
  refine (IsR_any _ _).mono ?_
  rw [Hmb.out]
  rintro e w1 ⟨rfl, rfl⟩
  cases mb
  · go_wp2
    go_ret
    exact ⟨ret_bool (by have := Hmb.out; simp [mayB, this]), HB.out⟩
  · go_wp2
    all_goals
      go_ret
      exact ⟨ret_bool (by have := Hmb.out; simp [mayB, knB, cntB, amgB, *]; try omega), HB.out⟩
theorem u16_in {x : Int} (h0 : 0 ≤ x) (h1 : x < 65536) : IntKind.u16.wrap x = x := by simp [IntKind.wrap, IntKind.signed, IntKind.bits]; omega
set_option maxRecDepth 100000 in
set_option maxHeartbeats 4000000 in
theorem mBytes_any (n : Nt) (w : World) : Calls Try.prog 7 #[ntV n] w fun e w' => e = .returned (.tuple #[.string (str (bytesV n)), .int .i64 (bytesE n)]) ∧ Below w.heap.size w w' := by
  obtain ⟨W, HW⟩ : ∃ x, Hid (w.alloc (.cells #[.int .i64 n.kind, .int .i64 n.epoch, .int .i64 n.res, .int .i64 n.mode, .int .i64 n.seq] 23) = x) := ⟨_, Lib.hid rfl⟩
  have HB : Hid (Below w.heap.size w W) := Lib.hid (by rw [← HW.out]; exact balloc (Below.refl _ _) _)
  have HN : Hid (NtAt W w.heap.size n) := Lib.hid (by rw [← HW.out]; exact NtAt.new w n _)
  obtain ⟨p, Hp⟩ : ∃ x, Hid (w.heap.size = x) := ⟨_, Lib.hid rfl⟩
  rw [Hp.out] at HN
  cases hm : mayB n with
  | false =>
    have hv : bytesV n = [] := by rw [bytesV, hm]; rfl
    have he : bytesE n = 1 := by rw [bytesE, hm]; rfl
    rw [hv, he]
    have Hm := Lib.hid hm
    clear hm hv he
    go_enter Try.func7, Try.ntmps7
    go_wp2_with fail
    rw [HW.out]
    refine (may_any W n).mono ?_
    rw [Hm.out]
    rintro e w1 ⟨rfl, hb⟩
    have B1 := Lib.hid (bnext HB.out hb)
    clear hb
    go_wp2
    go_ret2
    exact ⟨rfl, B1.out⟩
  | true =>
    have hv : bytesV n = bytesN n := by rw [bytesV, hm]; rfl
    have he : bytesE n = 0 := by rw [bytesE, hm]; rfl
    obtain ⟨⟨k0, k1⟩, ⟨e0, e1⟩, ⟨r0, r1⟩, ⟨m0, m1⟩, s0, s1⟩ := mayB_bounds hm
    obtain ⟨K0, HK0⟩ : ∃ x, Hid (be 2 n.kind.toNat = x) := ⟨_, Lib.hid rfl⟩
    obtain ⟨K1, HK1⟩ : ∃ x, Hid (be 8 n.epoch.toNat = x) := ⟨_, Lib.hid rfl⟩
    obtain ⟨K2, HK2⟩ : ∃ x, Hid (be 2 n.res.toNat = x) := ⟨_, Lib.hid rfl⟩
    obtain ⟨K3, HK3⟩ : ∃ x, Hid (be 2 n.mode.toNat = x) := ⟨_, Lib.hid rfl⟩
    obtain ⟨K4, HK4⟩ : ∃ x, Hid (be 8 n.seq.toNat = x) := ⟨_, Lib.hid rfl⟩
    have L0 : K0.length = 2 := by rw [← HK0.out, be_length]
    have L1 : K1.length = 8 := by rw [← HK1.out, be_length]
    have L2 : K2.length = 2 := by rw [← HK2.out, be_length]
    have L3 : K3.length = 2 := by rw [← HK3.out, be_length]
    have L4 : K4.length = 8 := by rw [← HK4.out, be_length]
    have hs : Hid (bytesN n = K0 ++ (K1 ++ (K2 ++ (K3 ++ K4)))) := Lib.hid (by rw [bytesN, HK0.out, HK1.out, HK2.out, HK3.out, HK4.out])
    rw [hv, he, hs.out]
    have Hm := Lib.hid hm
    clear hm hv he
    have v0 : IntKind.u16.wrap n.kind = n.kind := u16_in (by omega) (by omega)
    have v1 : IntKind.u64.wrap n.epoch = n.epoch := IntWalk.u64_in _ (by omega)
    have v2 : IntKind.u16.wrap n.res = n.res := u16_in (by omega) (by omega)
    have v3 : IntKind.u16.wrap n.mode = n.mode := u16_in (by omega) (by omega)
    have v4 : IntKind.u64.wrap n.seq = n.seq := IntWalk.u64_in _ (by omega)
    go_enter Try.func7, Try.ntmps7
    go_wp2_with fail
    rw [HW.out]
    refine (may_any W n).mono ?_
    rw [Hm.out]
    rintro e w1 ⟨rfl, hb⟩
    have B1 := Lib.hid (bnext HB.out hb)
    have N1 := Lib.hid (HN.out.below hb)
    clear hb HN HB
    have q0 : ∀ y : In (Abv w1), y.u.cell? ⟨p, 0, none⟩ = some (.int .i64 n.kind) := fun y => (N1.out.below y.is).c0
    have q1 : ∀ y : In (Abv w1), y.u.cell? ⟨p, 1, none⟩ = some (.int .i64 n.epoch) := fun y => (N1.out.below y.is).c1
    have q2 : ∀ y : In (Abv w1), y.u.cell? ⟨p, 2, none⟩ = some (.int .i64 n.res) := fun y => (N1.out.below y.is).c2
    have q3 : ∀ y : In (Abv w1), y.u.cell? ⟨p, 3, none⟩ = some (.int .i64 n.mode) := fun y => (N1.out.below y.is).c3
    have q4 : ∀ y : In (Abv w1), y.u.cell? ⟨p, 4, none⟩ = some (.int .i64 n.seq) := fun y => (N1.out.below y.is).c4
    rw [Hp.out]
    go_wp2_with fail
    refine wp_region_mix (by kernel_rfl) (Cls (Abv w1)) [(0, 0), (1, 0), (2, 0), (4, 0), (5, 0), (6, 0), (3, 1), (7, 1), (8, 0), (9, 0)] (by kernel_rfl) (cls (Below.refl _ w1).drew) ?_
    repeat (refine mix0 rfl (fun K hK => ?_); go_simp; refine hK _ ?_; clear hK K)
    refine mix1 rfl (fun K hK => ?_)
    go_simp
    refine (Two_any _ (by omega) (by omega) _).mono ?_
    rw [HK0.out]
    rintro e w2 ⟨rfl, hb2⟩
    have D2 := Lib.hid (bnext (Below.refl _ w1).drew hb2)
    clear hb2
    refine ⟨_, rfl, hK _ _ (cls D2.out) ?_⟩
    clear hK K
    refine mix1 rfl (fun K hK => ?_)
    go_simp
    refine (Eight_any _ (by omega) (by omega) _).mono ?_
    rw [HK1.out]
    rintro e w3 ⟨rfl, hb3⟩
    have D3 := Lib.hid (bnext D2.out hb3)
    clear hb3
    refine ⟨_, rfl, hK _ _ (cls D3.out) ?_⟩
    clear hK K
    have t1 : ¬ 9223372036854775807 < K0.length + K1.length := by omega
    repeat (refine mix0 rfl (fun K hK => ?_); go_simp; refine hK _ ?_; clear hK K)
    refine mixEnd ?_
    obtain ⟨H, HH⟩ : ∃ x, Hid (K0 ++ K1 = x) := ⟨_, Lib.hid rfl⟩
    have hH : H.length = 10 := by rw [← HH.out, List.length_append]; omega
    have hs2 : Hid (K0 ++ (K1 ++ (K2 ++ (K3 ++ K4))) = H ++ K2 ++ K3 ++ K4) := Lib.hid (by rw [← HH.out]; simp only [List.append_assoc])
    go_wp2_with fail
    try rw [HH.out]
    refine wp_region_mix (by kernel_rfl) (Cls (Abv w1)) [(0, 0), (1, 0), (2, 0), (3, 0), (6, 0), (7, 0), (8, 0), (11, 0), (12, 0), (13, 0), (4, 1), (5, 0), (9, 1), (10, 0), (14, 1), (15, 0), (16, 0), (17, 0)] (by kernel_rfl) (cls D3.out.drew) ?_
    repeat (refine mix0 rfl (fun K hK => ?_); go_simp; refine hK _ ?_; clear hK K)
    refine mix1 rfl (fun K hK => ?_)
    go_simp
    refine (Two_any _ (by omega) (by omega) _).mono ?_
    rw [HK2.out]
    rintro e w4 ⟨rfl, hb4⟩
    have D4 := Lib.hid (bnext D3.out.drew hb4)
    clear hb4
    refine ⟨_, rfl, hK _ _ (cls D4.out) ?_⟩
    clear hK K
    have t2 : ¬ 9223372036854775807 < H.length + K2.length := by omega
    repeat (refine mix0 rfl (fun K hK => ?_); go_simp; refine hK _ ?_; clear hK K)
    obtain ⟨H2, HH2⟩ : ∃ x, Hid (H ++ K2 = x) := ⟨_, Lib.hid rfl⟩
    have hH2 : H2.length = 12 := by rw [← HH2.out, List.length_append]; omega
    try rw [HH2.out]
    refine mix1 rfl (fun K hK => ?_)
    go_simp
    refine (Two_any _ (by omega) (by omega) _).mono ?_
    rw [HK3.out]
    rintro e w5 ⟨rfl, hb5⟩
    have D5 := Lib.hid (bnext D4.out hb5)
    clear hb5
    refine ⟨_, rfl, hK _ _ (cls D5.out) ?_⟩
    clear hK K
    have t3 : ¬ 9223372036854775807 < H2.length + K3.length := by omega
    repeat (refine mix0 rfl (fun K hK => ?_); go_simp; refine hK _ ?_; clear hK K)
    obtain ⟨H3, HH3⟩ : ∃ x, Hid (H2 ++ K3 = x) := ⟨_, Lib.hid rfl⟩
    have hH3 : H3.length = 14 := by rw [← HH3.out, List.length_append]; omega
    try rw [HH3.out]
    refine mix1 rfl (fun K hK => ?_)
    go_simp
    refine (Eight_any _ (by omega) (by omega) _).mono ?_
    rw [HK4.out]
    rintro e w6 ⟨rfl, hb6⟩
    have D6 := Lib.hid (bnext D5.out hb6)
    clear hb6
    refine ⟨_, rfl, hK _ _ (cls D6.out) ?_⟩
    clear hK K
    have t4 : ¬ 9223372036854775807 < H3.length + K4.length := by omega
    repeat (refine mix0 rfl (fun K hK => ?_); go_simp; refine hK _ ?_; clear hK K)
    refine mixEnd ?_
    go_wp2
    go_ret2
    refine ⟨?_, bnext B1.out D6.out⟩
    rw [hs2.out, HH2.out, HH3.out]
    rfl
set_option maxRecDepth 100000 in
set_option maxHeartbeats 4000000 in
theorem xBytes_any (n : Nt) (w : World) : Calls Try.prog 8 #[ntV n] w fun e w' => e = .returned (.tuple #[.string (str (bytesV n)), .int .i64 (bytesE n)]) ∧ Below w.heap.size w w' := by
  obtain ⟨W, HW⟩ : ∃ x, Hid (w.alloc (.cells #[.int .i64 n.kind, .int .i64 n.epoch, .int .i64 n.res, .int .i64 n.mode, .int .i64 n.seq] 23) = x) := ⟨_, Lib.hid rfl⟩
  have HB : Hid (Below w.heap.size w W) := Lib.hid (by rw [← HW.out]; exact balloc (Below.refl _ _) _)
  have HN : Hid (NtAt W w.heap.size n) := Lib.hid (by rw [← HW.out]; exact NtAt.new w n _)
  obtain ⟨p, Hp⟩ : ∃ x, Hid (w.heap.size = x) := ⟨_, Lib.hid rfl⟩
  rw [Hp.out] at HN
  cases hm : mayB n with
  | false =>
    have hv : bytesV n = [] := by rw [bytesV, hm]; rfl
    have he : bytesE n = 1 := by rw [bytesE, hm]; rfl
    rw [hv, he]
    have Hm := Lib.hid hm
    clear hm hv he
    go_enter Try.func8, Try.ntmps8
    go_wp2_with fail
    rw [HW.out]
    refine (xmay_any W n).mono ?_
    rw [Hm.out]
    rintro e w1 ⟨rfl, hb⟩
    have B1 := Lib.hid (bnext HB.out hb)
    clear hb
    go_wp2
    go_ret2
    exact ⟨rfl, B1.out⟩
  | true =>
    have hv : bytesV n = bytesN n := by rw [bytesV, hm]; rfl
    have he : bytesE n = 0 := by rw [bytesE, hm]; rfl
    obtain ⟨⟨k0, k1⟩, ⟨e0, e1⟩, ⟨r0, r1⟩, ⟨m0, m1⟩, s0, s1⟩ := mayB_bounds hm
    obtain ⟨K0, HK0⟩ : ∃ x, Hid (be 2 n.kind.toNat = x) := ⟨_, Lib.hid rfl⟩
    obtain ⟨K1, HK1⟩ : ∃ x, Hid (be 8 n.epoch.toNat = x) := ⟨_, Lib.hid rfl⟩
    obtain ⟨K2, HK2⟩ : ∃ x, Hid (be 2 n.res.toNat = x) := ⟨_, Lib.hid rfl⟩
    obtain ⟨K3, HK3⟩ : ∃ x, Hid (be 2 n.mode.toNat = x) := ⟨_, Lib.hid rfl⟩
    obtain ⟨K4, HK4⟩ : ∃ x, Hid (be 8 n.seq.toNat = x) := ⟨_, Lib.hid rfl⟩
    have L0 : K0.length = 2 := by rw [← HK0.out, be_length]
    have L1 : K1.length = 8 := by rw [← HK1.out, be_length]
    have L2 : K2.length = 2 := by rw [← HK2.out, be_length]
    have L3 : K3.length = 2 := by rw [← HK3.out, be_length]
    have L4 : K4.length = 8 := by rw [← HK4.out, be_length]
    have hs : Hid (bytesN n = K0 ++ (K1 ++ (K2 ++ (K3 ++ K4)))) := Lib.hid (by rw [bytesN, HK0.out, HK1.out, HK2.out, HK3.out, HK4.out])
    rw [hv, he, hs.out]
    have Hm := Lib.hid hm
    clear hm hv he
    have v0 : IntKind.u64.wrap n.kind = n.kind := IntWalk.u64_in _ (by omega)
    have v1 : IntKind.u64.wrap n.epoch = n.epoch := IntWalk.u64_in _ (by omega)
    have v2 : IntKind.u64.wrap n.res = n.res := IntWalk.u64_in _ (by omega)
    have v3 : IntKind.u64.wrap n.mode = n.mode := IntWalk.u64_in _ (by omega)
    have v4 : IntKind.u64.wrap n.seq = n.seq := IntWalk.u64_in _ (by omega)
    go_enter Try.func8, Try.ntmps8
    go_wp2_with fail
    rw [HW.out]
    refine (xmay_any W n).mono ?_
    rw [Hm.out]
    rintro e w1 ⟨rfl, hb⟩
    have B1 := Lib.hid (bnext HB.out hb)
    have N1 := Lib.hid (HN.out.below hb)
    clear hb HN HB
    have q0 : ∀ y : In (Abv w1), y.u.cell? ⟨p, 0, none⟩ = some (.int .i64 n.kind) := fun y => (N1.out.below y.is).c0
    have q1 : ∀ y : In (Abv w1), y.u.cell? ⟨p, 1, none⟩ = some (.int .i64 n.epoch) := fun y => (N1.out.below y.is).c1
    have q2 : ∀ y : In (Abv w1), y.u.cell? ⟨p, 2, none⟩ = some (.int .i64 n.res) := fun y => (N1.out.below y.is).c2
    have q3 : ∀ y : In (Abv w1), y.u.cell? ⟨p, 3, none⟩ = some (.int .i64 n.mode) := fun y => (N1.out.below y.is).c3
    have q4 : ∀ y : In (Abv w1), y.u.cell? ⟨p, 4, none⟩ = some (.int .i64 n.seq) := fun y => (N1.out.below y.is).c4
    rw [Hp.out]
    go_wp2_with fail
    refine wp_region_mix (by kernel_rfl) (Cls (Abv w1)) [(0, 0), (1, 0), (2, 0), (4, 0), (5, 0), (6, 0), (9, 0), (10, 0), (11, 0), (14, 0), (15, 0), (16, 0), (19, 0), (20, 0), (21, 0), (3, 1), (7, 1), (8, 0), (12, 1), (13, 0), (17, 1), (18, 0), (22, 1), (23, 0), (24, 0), (25, 0)] (by kernel_rfl) (cls (Below.refl _ w1).drew) ?_
    have D0 : Hid (Below w1.heap.size w1 w1.drew) := Lib.hid (Below.refl _ w1).drew
    repeat (refine mix0 rfl (fun K hK => ?_); go_simp; refine hK _ ?_; clear hK K)
    refine mix1 rfl (fun K hK => ?_)
    go_simp
    refine (Num2_any _ (by omega) (by omega) _).mono ?_
    rw [HK0.out]
    rintro e u0 ⟨rfl, hb⟩
    have D1 := Lib.hid (bnext D0.out hb)
    clear hb
    refine ⟨_, rfl, hK _ _ (cls D1.out) ?_⟩
    clear hK K
    refine mix1 rfl (fun K hK => ?_)
    go_simp
    refine (Num8_any _ (by omega) (by omega) _).mono ?_
    rw [HK1.out]
    rintro e u1 ⟨rfl, hb⟩
    have D2 := Lib.hid (bnext D1.out hb)
    clear hb
    refine ⟨_, rfl, hK _ _ (cls D2.out) ?_⟩
    clear hK K
    have t1 : ¬ 9223372036854775807 < K0.length + K1.length := by omega
    repeat (refine mix0 rfl (fun K hK => ?_); go_simp; refine hK _ ?_; clear hK K)
    obtain ⟨P1, HP1⟩ : ∃ x, Hid (K0 ++ K1 = x) := ⟨_, Lib.hid rfl⟩
    have hP1 : P1.length = 10 := by rw [← HP1.out, List.length_append]; omega
    try rw [HP1.out]
    refine mix1 rfl (fun K hK => ?_)
    go_simp
    refine (Num2_any _ (by omega) (by omega) _).mono ?_
    rw [HK2.out]
    rintro e u2 ⟨rfl, hb⟩
    have D3 := Lib.hid (bnext D2.out hb)
    clear hb
    refine ⟨_, rfl, hK _ _ (cls D3.out) ?_⟩
    clear hK K
    have t2 : ¬ 9223372036854775807 < P1.length + K2.length := by omega
    repeat (refine mix0 rfl (fun K hK => ?_); go_simp; refine hK _ ?_; clear hK K)
    obtain ⟨P2, HP2⟩ : ∃ x, Hid (P1 ++ K2 = x) := ⟨_, Lib.hid rfl⟩
    have hP2 : P2.length = 12 := by rw [← HP2.out, List.length_append]; omega
    try rw [HP2.out]
    refine mix1 rfl (fun K hK => ?_)
    go_simp
    refine (Num2_any _ (by omega) (by omega) _).mono ?_
    rw [HK3.out]
    rintro e u3 ⟨rfl, hb⟩
    have D4 := Lib.hid (bnext D3.out hb)
    clear hb
    refine ⟨_, rfl, hK _ _ (cls D4.out) ?_⟩
    clear hK K
    have t3 : ¬ 9223372036854775807 < P2.length + K3.length := by omega
    repeat (refine mix0 rfl (fun K hK => ?_); go_simp; refine hK _ ?_; clear hK K)
    obtain ⟨P3, HP3⟩ : ∃ x, Hid (P2 ++ K3 = x) := ⟨_, Lib.hid rfl⟩
    have hP3 : P3.length = 14 := by rw [← HP3.out, List.length_append]; omega
    try rw [HP3.out]
    refine mix1 rfl (fun K hK => ?_)
    go_simp
    refine (Num8_any _ (by omega) (by omega) _).mono ?_
    rw [HK4.out]
    rintro e u4 ⟨rfl, hb⟩
    have D5 := Lib.hid (bnext D4.out hb)
    clear hb
    refine ⟨_, rfl, hK _ _ (cls D5.out) ?_⟩
    clear hK K
    have t4 : ¬ 9223372036854775807 < P3.length + K4.length := by omega
    repeat (refine mix0 rfl (fun K hK => ?_); go_simp; refine hK _ ?_; clear hK K)
    refine mixEnd ?_
    go_wp2
    go_ret2
    refine ⟨?_, bnext B1.out D5.out⟩
    rw [show K0 ++ (K1 ++ (K2 ++ (K3 ++ K4))) = P3 ++ K4 by rw [← HP3.out, ← HP2.out, ← HP1.out]; simp only [List.append_assoc]]
    rfl
end Go.Proofs.Ythpmodohfjjjcaa
