/- An inode's bytes: what package inode and the document give, at this translation. -/
import Derived.Test.YtdlbibhekoobjaaIv14
import Derived.Test.YtdlbibhekoobjaaXk14
import Derived.Test.YtdlbibhekoobjaaRefRd01
namespace Go.Proofs.Ytdlbibhekoobjaa
open Go.RowKit

set_option maxRecDepth 100000 in
set_option maxHeartbeats 4000000 in
theorem IBytes_any (x : Ino) (A : Option Addr) (n c : Nat) (hn : n ≤ 1000) (hws : (Lit.int .i64 x.s).wf = true) (w : World) (h : IsG w 1 encI A n x.d) :
    Calls Try.prog 12 #[inoV x A n c] w fun e w' => e = .returned (.tuple #[.string (str (inoBy x)), .int .i64 (inoE x)]) ∧ Below w.heap.size w w' := by
  have Hws := Lib.hid hws
  obtain ⟨p, Hp⟩ : ∃ p, Hid (w.heap.size = p) := ⟨_, Lib.hid rfl⟩
  obtain ⟨W, HW⟩ : ∃ z, Hid (w.alloc (.cells #[.int .i64 x.k, .int .i64 x.l, .int .i64 x.s, .slice A n c] 24) = z) := ⟨_, Lib.hid rfl⟩
  have BW : Hid (Below w.heap.size w W) := Lib.hid (by rw [← HW.out]; exact balloc (Below.refl _ w) _)
  have HI : Hid (InoAt W p x A n c) := Lib.hid (by rw [← HW.out, ← Hp.out]; exact InoAt.new w x A n c _)
  have Hd : Hid (IsG W 1 encI A n x.d) := Lib.hid (h.below BW.out)
  have Hlen := Lib.hid h.length
  have hW := HW.out
  have hp := Hp.out
  have hlt := HI.out.lt
  obtain ⟨c0, c1, c2, c3⟩ := HI.out
  clear h hws
  by_cases hk : inoB x = true
  · have ok := InoOk.of hk
    have He : Hid (inoE x = 0) := Lib.hid (if_pos hk)
    have Hs : Hid (inoBy x = headI x ++ fours x.d) := Lib.hid (if_pos hk)
    have hk0 : 0 ≤ x.k ∧ x.k ≤ 2 := by rcases ok.k with e | e <;> omega
    obtain ⟨hk0, hk1⟩ := hk0
    obtain ⟨hl0, hl1⟩ := ok.l
    have hs0 := ok.s0
    have hs1 := ok.s1
    have hd12 : n ≤ 12 := by have := ok.len; have := Hlen.out; omega
    have Hb := Lib.hid ok.b
    have v1 : IntKind.u16.wrap x.k = x.k := IntWalk.u16_in _ (by omega)
    have v2 : IntKind.u16.wrap x.l = x.l := IntWalk.u16_in _ (by omega)
    have v3 : IntKind.u32.wrap x.s = x.s := IntWalk.u32_in _ (by omega)
    have n1 := be_length 2 x.k.toNat
    have n2 := be_length 2 x.l.toNat
    have n3 := be_length 4 x.s.toNat
    obtain ⟨F, HF⟩ : ∃ z, Hid (fours x.d = z) := ⟨_, Lib.hid rfl⟩
    obtain ⟨H, HH⟩ : ∃ z, Hid (headI x = z) := ⟨_, Lib.hid rfl⟩
    rw [He.out, Hs.out, HF.out, HH.out, inoV]
    clear ok hk
    go_enter Try.func12, Try.ntmps12
    go_wp2_with fail
    refine (Check_any _ _ _ _ (by omega) Hws.out _ Hd.out).mono ?_
    rw [He.out]
    rintro e w1 ⟨rfl, hb⟩
    have B1 := Lib.hid hb
    have HI1 := Lib.hid (HI.out.below hb)
    have Hd1 := Lib.hid (Hd.out.below hb)
    clear hb hW hp hlt c0 c1 c2 c3
    have q0 : ∀ y : In (Abv w1), y.u.cell? ⟨p, 0, none⟩ = some (.int .i64 x.k) := fun y => (HI1.out.below y.is).c0
    have q1 : ∀ y : In (Abv w1), y.u.cell? ⟨p, 1, none⟩ = some (.int .i64 x.l) := fun y => (HI1.out.below y.is).c1
    have q2 : ∀ y : In (Abv w1), y.u.cell? ⟨p, 2, none⟩ = some (.int .i64 x.s) := fun y => (HI1.out.below y.is).c2
    go_wp2_with fail
    refine wp_region_mix (by kernel_rfl) (Cls (Abv w1)) [(0, 0), (1, 0), (2, 0), (5, 0), (6, 0), (7, 0), (10, 0), (11, 0), (12, 0), (3, 1), (4, 0), (8, 1), (9, 0), (13, 1), (14, 0), (15, 0)] (by kernel_rfl) (cls (Below.refl _ w1).drew) ?_
    repeat (refine mix0 rfl (fun K hK => ?_); go_simp; refine hK _ ?_; clear hK K)
    refine mix1 rfl (fun K hK => ?_)
    go_simp
    refine (Two_any _ (by omega) (by omega) _).mono ?_
    rintro e w2 ⟨rfl, hb⟩
    have D2 : Hid (Below w1.heap.size w1 w2) := Lib.hid (bnext (Below.refl _ w1).drew hb)
    clear hb
    refine ⟨_, rfl, hK _ _ (cls D2.out) ?_⟩
    clear hK K
    repeat (refine mix0 rfl (fun K hK => ?_); go_simp; refine hK _ ?_; clear hK K)
    refine mix1 rfl (fun K hK => ?_)
    go_simp
    refine (Two_any _ (by omega) (by omega) _).mono ?_
    rintro e w3 ⟨rfl, hb⟩
    have D3 : Hid (Below w1.heap.size w1 w3) := Lib.hid (bnext D2.out hb)
    clear hb
    refine ⟨_, rfl, hK _ _ (cls D3.out) ?_⟩
    clear hK K
    repeat (refine mix0 rfl (fun K hK => ?_); go_simp; refine hK _ ?_; clear hK K)
    refine mix1 rfl (fun K hK => ?_)
    go_simp
    refine (Four_any _ (by omega) (by omega) _).mono ?_
    rintro e w4 ⟨rfl, hb⟩
    have D4 : Hid (Below w1.heap.size w1 w4) := Lib.hid (bnext D3.out hb)
    clear hb
    refine ⟨_, rfl, hK _ _ (cls D4.out) ?_⟩
    clear hK K
    have HHs : Hid ((⟨#[76, 71, 73, 49]⟩ : ByteArray) ++ str (be 2 x.k.toNat) ++ str (be 2 x.l.toNat) ++ str (be 4 x.s.toNat) = str H) := Lib.hid (by
      rw [← HH.out, headI, show (⟨#[76, 71, 73, 49]⟩ : ByteArray) = str signI from rfl, str_append, str_append, str_append]
      simp only [List.append_assoc])
    repeat (refine mix0 rfl (fun K hK => ?_); go_simp; refine hK _ ?_; clear hK K)
    refine mixEnd ?_
    rw [HHs.out]
    clear q0 q1 q2
    have HI4 := Lib.hid (HI1.out.below D4.out)
    have Hd4 := Lib.hid (Hd1.out.below D4.out)
    have BB : Hid (Below w.heap.size w w4) := Lib.hid (bnext BW.out (bnext B1.out D4.out))
    have hlt := HI4.out.lt
    have c3 := HI4.out.c3
    have hHl : H.length = 12 := by rw [← HH.out]; exact headI_length x
    go_wp2_with fail
    clear hlt c3
    go_loopw [5, 31] (fun s i wr => ∃ j : Nat, j ≤ n ∧ s = .string (str (H ++ fours (x.d.take j))) ∧ i = .int .i64 j ∧ Hid (Below w4.heap.size w4 wr)) (fun _ i _ => n - (intOf i).toNat)
    case atStart => exact ⟨0, Nat.zero_le _, by rw [List.take_zero]; simp [fours], rfl, Lib.hid (Below.refl _ _)⟩
    case round =>
      obtain ⟨j, hj, rfl, rfl, Hbr⟩ := hrel
      have hlt := (HI4.out.below Hbr.out).lt
      have c3 := (HI4.out.below Hbr.out).c3
      obtain ⟨S, HS⟩ : ∃ S, Hid (H ++ fours (x.d.take j) = S) := ⟨_, Lib.hid rfl⟩
      have hSl : S.length ≤ 100 := by rw [← HS.out, List.length_append, fours_length, List.length_take]; omega
      rw [HS.out]
      by_cases hlt2 : j < n
      · have hltI : (j : Int) < (n : Int) := by omega
        obtain ⟨y, hy⟩ : ∃ y, x.d[j]? = some y := ⟨_, List.getElem?_eq_getElem (by rw [Hlen.out]; exact hlt2)⟩
        obtain ⟨g, off, rfl, d0⟩ := (Hd4.out.below Hbr.out).num hy
        obtain ⟨y0, y1⟩ := Hb.out y (List.mem_of_getElem? hy)
        have v4 : IntKind.u32.wrap y = y := IntWalk.u32_in _ (by omega)
        have n4 := be_length 4 y.toNat
        have Hst : Hid (S ++ be 4 y.toNat = H ++ fours (x.d.take (j + 1))) := Lib.hid (by
          obtain ⟨hk', he⟩ := List.getElem?_eq_some_iff.1 hy
          rw [List.take_succ_eq_append_getElem hk', he, fours_append, ← HS.out, List.append_assoc]
          congr 2
          all_goals simp [fours])
        clear hy
        go_wp2_with fail
        refine (Four_any _ (by omega) (by omega) _).mono ?_
        rintro e w5 ⟨rfl, hb⟩
        have B5 := Lib.hid (bnext Hbr.out hb)
        clear hb c3 d0 hlt
        go_wp2
        go_roundw
        case rel => exact ⟨j + 1, by omega, by rw [Hst.out], by go_num, B5⟩
        case measure => simp [intOf]; omega
      · have hltI : ¬ (j : Int) < (n : Int) := by omega
        have HSF : Hid (S = H ++ F) := Lib.hid (by rw [← HS.out, ← HF.out, List.take_of_length_le (by rw [Hlen.out]; omega)])
        go_wp2
        go_ret2
        exact ⟨by rw [HSF.out]; rfl, bnext BB.out Hbr.out⟩
  · have He : Hid (inoE x = 1) := Lib.hid (if_neg hk)
    have Hs : Hid (inoBy x = []) := Lib.hid (if_neg hk)
    rw [He.out, Hs.out, inoV]
    clear hk
    go_enter Try.func12, Try.ntmps12
    go_wp2_with fail
    refine (Check_any _ _ _ _ (by omega) Hws.out _ Hd.out).mono ?_
    rw [He.out]
    rintro e w1 ⟨rfl, hb⟩
    have B1 := Lib.hid (bnext BW.out hb)
    clear hb
    go_wp2
    go_ret2
    exact ⟨rfl, B1.out⟩
set_option maxRecDepth 100000 in
set_option maxHeartbeats 4000000 in
theorem XIBytes_any (x : Ino) (A : Option Addr) (n c : Nat) (hn : n ≤ 1000) (hws : (Lit.int .i64 x.s).wf = true) (w : World) (h : IsG w 1 encI A n x.d) :
    Calls Try.prog 13 #[inoV x A n c] w fun e w' => e = .returned (.tuple #[.string (str (inoBy x)), .int .i64 (inoE x)]) ∧ Below w.heap.size w w' := by
  have Hws := Lib.hid hws
  obtain ⟨p, Hp⟩ : ∃ p, Hid (w.heap.size = p) := ⟨_, Lib.hid rfl⟩
  obtain ⟨W, HW⟩ : ∃ z, Hid (w.alloc (.cells #[.int .i64 x.k, .int .i64 x.l, .int .i64 x.s, .slice A n c] 24) = z) := ⟨_, Lib.hid rfl⟩
  have BW : Hid (Below w.heap.size w W) := Lib.hid (by rw [← HW.out]; exact balloc (Below.refl _ w) _)
  have HI : Hid (InoAt W p x A n c) := Lib.hid (by rw [← HW.out, ← Hp.out]; exact InoAt.new w x A n c _)
  have Hd : Hid (IsG W 1 encI A n x.d) := Lib.hid (h.below BW.out)
  have Hlen := Lib.hid h.length
  have hW := HW.out
  have hp := Hp.out
  have hlt := HI.out.lt
  obtain ⟨c0, c1, c2, c3⟩ := HI.out
  clear h hws
  by_cases hk : inoB x = true
  · have ok := InoOk.of hk
    have He : Hid (inoE x = 0) := Lib.hid (if_pos hk)
    have Hs : Hid (inoBy x = headI x ++ fours x.d) := Lib.hid (if_pos hk)
    have hk0 : 0 ≤ x.k ∧ x.k ≤ 2 := by rcases ok.k with e | e <;> omega
    obtain ⟨hk0, hk1⟩ := hk0
    obtain ⟨hl0, hl1⟩ := ok.l
    have hs0 := ok.s0
    have hs1 := ok.s1
    have hd12 : n ≤ 12 := by have := ok.len; have := Hlen.out; omega
    have Hb := Lib.hid ok.b
    have v1 : IntKind.u64.wrap x.k = x.k := IntWalk.u64_in _ (by omega)
    have v2 : IntKind.u64.wrap x.l = x.l := IntWalk.u64_in _ (by omega)
    have v3 : IntKind.u64.wrap x.s = x.s := IntWalk.u64_in _ (by omega)
    have n1 := be_length 2 x.k.toNat
    have n2 := be_length 2 x.l.toNat
    have n3 := be_length 4 x.s.toNat
    obtain ⟨F, HF⟩ : ∃ z, Hid (fours x.d = z) := ⟨_, Lib.hid rfl⟩
    obtain ⟨H, HH⟩ : ∃ z, Hid (headI x = z) := ⟨_, Lib.hid rfl⟩
    rw [He.out, Hs.out, HF.out, HH.out, inoV]
    clear ok hk
    go_enter Try.func13, Try.ntmps13
    go_wp2_with fail
    refine (XCheck_any _ _ _ _ (by omega) Hws.out _ Hd.out).mono ?_
    rw [He.out]
    rintro e w1 ⟨rfl, hb⟩
    have B1 := Lib.hid hb
    have HI1 := Lib.hid (HI.out.below hb)
    have Hd1 := Lib.hid (Hd.out.below hb)
    clear hb hW hp hlt c0 c1 c2 c3
    have q0 : ∀ y : In (Abv w1), y.u.cell? ⟨p, 0, none⟩ = some (.int .i64 x.k) := fun y => (HI1.out.below y.is).c0
    have q1 : ∀ y : In (Abv w1), y.u.cell? ⟨p, 1, none⟩ = some (.int .i64 x.l) := fun y => (HI1.out.below y.is).c1
    have q2 : ∀ y : In (Abv w1), y.u.cell? ⟨p, 2, none⟩ = some (.int .i64 x.s) := fun y => (HI1.out.below y.is).c2
    go_wp2_with fail
    refine wp_region_mix (by kernel_rfl) (Cls (Abv w1)) [(0, 0), (1, 0), (2, 0), (5, 0), (6, 0), (7, 0), (10, 0), (11, 0), (12, 0), (3, 1), (4, 0), (8, 1), (9, 0), (13, 1), (14, 0), (15, 0)] (by kernel_rfl) (cls (Below.refl _ w1).drew) ?_
    repeat (refine mix0 rfl (fun K hK => ?_); go_simp; refine hK _ ?_; clear hK K)
    refine mix1 rfl (fun K hK => ?_)
    go_simp
    refine (Num2_any _ (by omega) (by omega) _).mono ?_
    rintro e w2 ⟨rfl, hb⟩
    have D2 : Hid (Below w1.heap.size w1 w2) := Lib.hid (bnext (Below.refl _ w1).drew hb)
    clear hb
    refine ⟨_, rfl, hK _ _ (cls D2.out) ?_⟩
    clear hK K
    repeat (refine mix0 rfl (fun K hK => ?_); go_simp; refine hK _ ?_; clear hK K)
    refine mix1 rfl (fun K hK => ?_)
    go_simp
    refine (Num2_any _ (by omega) (by omega) _).mono ?_
    rintro e w3 ⟨rfl, hb⟩
    have D3 : Hid (Below w1.heap.size w1 w3) := Lib.hid (bnext D2.out hb)
    clear hb
    refine ⟨_, rfl, hK _ _ (cls D3.out) ?_⟩
    clear hK K
    repeat (refine mix0 rfl (fun K hK => ?_); go_simp; refine hK _ ?_; clear hK K)
    refine mix1 rfl (fun K hK => ?_)
    go_simp
    refine (Num4_any _ (by omega) (by omega) _).mono ?_
    rintro e w4 ⟨rfl, hb⟩
    have D4 : Hid (Below w1.heap.size w1 w4) := Lib.hid (bnext D3.out hb)
    clear hb
    refine ⟨_, rfl, hK _ _ (cls D4.out) ?_⟩
    clear hK K
    have HHs : Hid ((⟨#[76, 71, 73, 49]⟩ : ByteArray) ++ str (be 2 x.k.toNat) ++ str (be 2 x.l.toNat) ++ str (be 4 x.s.toNat) = str H) := Lib.hid (by
      rw [← HH.out, headI, show (⟨#[76, 71, 73, 49]⟩ : ByteArray) = str signI from rfl, str_append, str_append, str_append]
      simp only [List.append_assoc])
    repeat (refine mix0 rfl (fun K hK => ?_); go_simp; refine hK _ ?_; clear hK K)
    refine mixEnd ?_
    rw [HHs.out]
    clear q0 q1 q2
    have HI4 := Lib.hid (HI1.out.below D4.out)
    have Hd4 := Lib.hid (Hd1.out.below D4.out)
    have BB : Hid (Below w.heap.size w w4) := Lib.hid (bnext BW.out (bnext B1.out D4.out))
    have hlt := HI4.out.lt
    have c3 := HI4.out.c3
    have hHl : H.length = 12 := by rw [← HH.out]; exact headI_length x
    go_wp2_with fail
    clear hlt c3
    go_loopw [4, 5] (fun s i wr => ∃ j : Nat, j ≤ n ∧ s = .string (str (H ++ fours (x.d.take j))) ∧ i = .int .i64 j ∧ Hid (Below w4.heap.size w4 wr)) (fun _ i _ => n - (intOf i).toNat)
    case atStart => exact ⟨0, Nat.zero_le _, by rw [List.take_zero]; simp [fours], rfl, Lib.hid (Below.refl _ _)⟩
    case round =>
      obtain ⟨j, hj, rfl, rfl, Hbr⟩ := hrel
      have hlt := (HI4.out.below Hbr.out).lt
      have c3 := (HI4.out.below Hbr.out).c3
      obtain ⟨S, HS⟩ : ∃ S, Hid (H ++ fours (x.d.take j) = S) := ⟨_, Lib.hid rfl⟩
      have hSl : S.length ≤ 100 := by rw [← HS.out, List.length_append, fours_length, List.length_take]; omega
      rw [HS.out]
      by_cases hlt2 : j < n
      · have hltI : (j : Int) < (n : Int) := by omega
        obtain ⟨y, hy⟩ : ∃ y, x.d[j]? = some y := ⟨_, List.getElem?_eq_getElem (by rw [Hlen.out]; exact hlt2)⟩
        obtain ⟨g, off, rfl, d0⟩ := (Hd4.out.below Hbr.out).num hy
        obtain ⟨y0, y1⟩ := Hb.out y (List.mem_of_getElem? hy)
        have v4 : IntKind.u64.wrap y = y := IntWalk.u64_in _ (by omega)
        have n4 := be_length 4 y.toNat
        have Hst : Hid (S ++ be 4 y.toNat = H ++ fours (x.d.take (j + 1))) := Lib.hid (by
          obtain ⟨hk', he⟩ := List.getElem?_eq_some_iff.1 hy
          rw [List.take_succ_eq_append_getElem hk', he, fours_append, ← HS.out, List.append_assoc]
          congr 2
          all_goals simp [fours])
        clear hy
        go_wp2_with fail
        refine (Num4_any _ (by omega) (by omega) _).mono ?_
        rintro e w5 ⟨rfl, hb⟩
        have B5 := Lib.hid (bnext Hbr.out hb)
        clear hb c3 d0 hlt
        go_wp2
        go_roundw
        case rel => exact ⟨j + 1, by omega, by rw [Hst.out], by go_num, B5⟩
        case measure => simp [intOf]; omega
      · have hltI : ¬ (j : Int) < (n : Int) := by omega
        have HSF : Hid (S = H ++ F) := Lib.hid (by rw [← HS.out, ← HF.out, List.take_of_length_le (by rw [Hlen.out]; omega)])
        go_wp2
        go_ret2
        exact ⟨by rw [HSF.out]; rfl, bnext BB.out Hbr.out⟩
  · have He : Hid (inoE x = 1) := Lib.hid (if_neg hk)
    have Hs : Hid (inoBy x = []) := Lib.hid (if_neg hk)
    rw [He.out, Hs.out, inoV]
    clear hk
    go_enter Try.func13, Try.ntmps13
    go_wp2_with fail
    refine (XCheck_any _ _ _ _ (by omega) Hws.out _ Hd.out).mono ?_
    rw [He.out]
    rintro e w1 ⟨rfl, hb⟩
    have B1 := Lib.hid (bnext BW.out hb)
    clear hb
    go_wp2
    go_ret2
    exact ⟨rfl, B1.out⟩
end Go.Proofs.Ytdlbibhekoobjaa
