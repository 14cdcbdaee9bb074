/- What is taken was free, and is taken then; given back, all is as it was: SpaceTurns. -/
import Derived.Test.YtoakjcmhmlngfaaRows
import Derived.Test.YtoakjcmhmlngfaaOb17
import Derived.Deep.CutBlock
import Derived.Deep.DeepCutAuto
namespace Go.Proofs.Ytoakjcmhmlngfaa.spaceTurns
open Go.RowKit Go.ChangeShapes Go.WideShapes Go.ChangeAt
open Go.ChangeMaps (open_string shut_string)

theorem takeV_told {l : Lay} {M : List (List UInt8)} (hM : RightM l M) {z k : Nat} (hz : z < 4) : ∃ N S t, takeV l M (z : Int) (k : Int) = (N, S, t) ∧ Owe l M N S ∧ (t = true → (k : Int) ≤ freeM l M ∧ S.length = k) ∧ (t = false → ¬ (k : Int) ≤ freeM l M ∧ S.length = 0) := by
  have hko := takeOk_eq hM hz (k := k)
  cases hk : takeOk l M (z : Int) (k : Int) with
  | false =>
    rw [hk] at hko
    exact ⟨M, [], false, takeV_no hk, takeUp_owe hM 0 0 0, (fun e => by cases e), fun _ => ⟨of_decide_eq_false hko.symm, rfl⟩⟩
  | true =>
    rw [hk] at hko
    have h := of_decide_eq_true hko.symm
    exact ⟨_, _, true, by rw [takeV, hk]; rfl, takeUp_owe hM z k 4, (fun _ => ⟨h, takeUp_all hM z k h⟩), fun e => by cases e⟩
/-- How it stands ahead of a round: these are the maps, those were told. -/
structure Trn (w0 u : World) (l : Lay) (M M1 : List (List UInt8)) (R : List Int) (Am : Option Addr) (cm : Nat) (a : Value) (fr : Int) : Prop where
  right : RightM l M1
  nn : Am = none → 4 = 0 ∧ cm = 0
  maps : IsG u 1 encT Am 4 M1
  owe : Owe l M M1 R
  free : freeM l M1 = fr
  row : RG u 1 encI a R
  new : ∀ g, blk a = some g → w0.heap.size ≤ g
  below : Below w0.heap.size w0 u
theorem owe_len {l : Lay} {M N : List (List UInt8)} {R : List Int} (hM : RightM l M) (h : Owe l M N R) : R.length ≤ 16000 := by
  have h1 := Owe.count hM _ rfl h
  have h2 := free_ge h.right
  have h3 := free_le (l := l) (M := M)
  omega
theorem give_last {l : Lay} {M N : List (List UInt8)} {R : List Int} {i : Nat} {x : Int} (hM : RightM l M) (h : Owe l M N (R.take (i + 1))) (hx : R[i]? = some x) : ∃ N', giveV l N [x] = (N', true) ∧ Owe l M N' (R.take i) ∧ freeM l N' = freeM l N + 1 := by
  have e : R.take (i + 1) = R.take i ++ [x] := by rw [List.take_add_one, hx]; rfl
  rw [e] at h
  obtain ⟨N', h1, h2⟩ := h.give hM (x := x) (by simp)
  have hn : x ∉ R.take i := fun hm => by
    have := (List.nodup_append.1 h.nodup).2.2 x hm x (by simp)
    exact this rfl
  rw [List.erase_append_right _ hn] at h2
  have e2 : [x].erase x = [] := by simp
  rw [e2, List.append_nil] at h2
  exact ⟨N', giveV_some (rightM_iff.2 h.right) h1, h2, free_given h.right h1⟩
set_option maxRecDepth 100000 in
set_option maxHeartbeats 8000000 in
theorem walk (a0 : Int) (A : Option Addr) (n cA : Nat) (zk : Nat → Int × Int) (w : World) (_h0 : (Lit.int .i64 a0).wf = true) (h1 : IsAsks w A n zk) (_h1c : n ≤ cA) :
    Calls Try.prog 3 #[.int .i64 a0, .slice A n cA] w fun e w' => e = .returned (.bool true) ∧ Below w.heap.size w w' := by
  have HA := Lib.hid h1
  obtain ⟨r0, Hr0⟩ : ∃ r, Hid (a0.tmod 101 = r) := ⟨_, Lib.hid rfl⟩
  have hb0 : -101 < r0 ∧ r0 < 101 := by have := tmod_bd a0 101 (by omega); rw [show ((101 : Nat) : Int) = 101 from rfl, Hr0.out] at this; exact this
  obtain ⟨b00, b01⟩ := hb0
  have hr0 := Hr0.out
  clear h1
  go_enter Try.func3, Try.ntmps3
  go_wp2_with fail
  refine (awk17_any w).mono ?_
  rintro e w1 ⟨rfl, b1⟩
  have B1 := Lib.hid b1
  clear b1
  go_upto_if 26 with fail
  go_cut [6] (fun s wx => ∃ v : Nat, v < 101 ∧ s = .int .i64 v ∧ wx = w1)
  case first =>
    by_cases hneg : r0 < 0
    · go_wp2_with fail
      go_meet
      case rel => exact ⟨(-r0).toNat, by omega, by go_num, rfl⟩
    · go_wp2_with fail
      go_meet
      case rel => exact ⟨r0.toNat, by omega, by go_num, rfl⟩
  case rest =>
  obtain ⟨d, hd, rfl, rfl⟩ := hcut
  clear hr0 Hr0 b00 b01
  have HRt : Hid (RightM (freshL (140 + (d : Int))) (freshM (140 + (d : Int)))) := Lib.hid (rightM_iff.1 (fresh_right d hd))
  obtain ⟨l, Hl⟩ : ∃ l, Hid (freshL (140 + (d : Int)) = l) := ⟨_, Lib.hid rfl⟩
  obtain ⟨M, HM⟩ : ∃ l, Hid (freshM (140 + (d : Int)) = l) := ⟨_, Lib.hid rfl⟩
  rw [Hl.out, HM.out] at HRt
  go_wp2_with fail
  refine (fresh_any (140 + (d : Int)) _).mono ?_
  rw [Hl.out, HM.out]
  rintro e w2 ⟨g, rfl, hI, _, hb⟩
  obtain ⟨q, Hq⟩ : ∃ q, Hid (w2.heap.size = q) := ⟨_, Lib.hid rfl⟩
  obtain ⟨W2, HW2⟩ : ∃ W, Hid (w2.alloc (.cells #[.int .i64 l.s, .int .i64 l.n, .int .i64 l.f, .int .i64 l.z] 25) = W) := ⟨_, Lib.hid rfl⟩
  have L2 : Hid (LayAt W2 q l ∧ Below w.heap.size w W2 ∧ IsG W2 1 encT (some ⟨g, 0, none⟩) 4 M) := Lib.hid (by
    have b := balloc (Below.refl w2.heap.size w2) (.cells #[.int .i64 l.s, .int .i64 l.n, .int .i64 l.f, .int .i64 l.z] 25)
    refine ⟨?_, by rw [← HW2.out]; exact bnext (bnext B1.out hb) b, by rw [← HW2.out]; exact hI.below b⟩
    rw [← HW2.out, ← Hq.out]
    exact ⟨by go_simp, by go_simp, by go_simp, by go_simp⟩)
  clear hI hb
  have HMs : Hid (∀ N : List (List UInt8), RightM l N → ∀ s ∈ N, s.length ≤ 100000) := Lib.hid (fun N hN s hm => by rw [(hN.good s hm).len]; exact Nat.le_trans (size_le _) (by decide))
  obtain ⟨fr0, Hfr0⟩ : ∃ x, Hid (freeM l M = x) := ⟨_, Lib.hid rfl⟩
  obtain ⟨e0, e1, e2, e3⟩ := L2.out.1
  rw [← HW2.out] at e0 e1 e2 e3
  go_wp2_with fail
  rw [HW2.out, Hq.out]
  refine (SFree_any l (some ⟨g, 0, none⟩) 4 4 M W2 L2.out.2.2 (HMs.out M HRt.out)).mono ?_
  rw [Hfr0.out]
  rintro e w3 ⟨rfl, b3⟩
  have B3 := Lib.hid b3
  clear b3 e0 e1 e2 e3
  go_upto_block 0 with (fail)
  go_cut [8, 10, 11] (fun s f a wx => ∃ (Am : Option Addr) (cm : Nat) (M1 : List (List UInt8)) (R : List Int) (fr : Int), s = .slice Am 4 cm ∧ f = .int .i64 fr ∧ Hid (Trn w3 wx l M M1 R Am cm a fr))
  case first =>
    go_wp2_with fail
    go_loopw [8, 10, 11, 12] (fun s f a i wr => ∃ (j : Nat) (Am : Option Addr) (cm : Nat) (M1 : List (List UInt8)) (R : List Int) (fr : Int), j ≤ 12 ∧ i = .int .i64 j ∧ s = .slice Am 4 cm ∧ f = .int .i64 fr ∧ Hid (Trn w3 wr l M M1 R Am cm a fr)) (fun _ _ _ i _ => 12 - (intOf i).toNat)
    case atStart => exact ⟨0, some ⟨g, 0, none⟩, 4, M, [], fr0, by omega, rfl, rfl, rfl, Lib.hid ⟨HRt.out, (fun e => by cases e), L2.out.2.2.below B3.out, takeUp_owe HRt.out 0 0 0, Hfr0.out, RG.nil _ _ _, (fun g e => by cases e), Below.refl _ _⟩⟩
    case round =>
      obtain ⟨j, Am, cm, M1, R, fr, hj, rfl, rfl, rfl, HT⟩ := hrel
      obtain ⟨A7, c7, rfl⟩ := HT.out.row.shape
      by_cases hlt : j < n
      · by_cases h6 : j < 12
        · have hj6 : (j : Int) < 12 := by omega
          have hjn : (j : Int) < (n : Int) := by omega
          have hj0 : (0 : Int) ≤ (j : Int) := by omega
          have BR : Hid (Below w.heap.size w wr ∧ Below W2.heap.size W2 wr) := Lib.hid ⟨bnext L2.out.2.1 (bnext B3.out HT.out.below), bnext B3.out HT.out.below⟩
          obtain ⟨b, off, hAe, hcells⟩ := (HA.out.below BR.out.1).cells (by omega)
          subst hAe
          obtain ⟨c0, c1⟩ := hcells j hlt
          obtain ⟨za, Hza⟩ : ∃ x, Hid ((zk j).1 = x) := ⟨_, Lib.hid rfl⟩
          obtain ⟨ka, Hka⟩ : ∃ x, Hid ((zk j).2 = x) := ⟨_, Lib.hid rfl⟩
          rw [Hza.out] at c0
          rw [Hka.out] at c1
          obtain ⟨z3, Hz3, hz3⟩ := and_mask17 za 3 (by decide)
          have hk3 : bits .and .i64 za 3 = (z3 : Int) := Hz3.out
          obtain ⟨r1, Hr1⟩ : ∃ r, Hid (ka.tmod 20 = r) := ⟨_, Lib.hid rfl⟩
          have hb1 : -20 < r1 ∧ r1 < 20 := by have := tmod_bd ka 20 (by omega); rw [show ((20 : Nat) : Int) = 20 from rfl, Hr1.out] at this; exact this
          obtain ⟨b10, b11⟩ := hb1
          have hr1 := Hr1.out
          have hfr0 : 0 ≤ fr := by rw [← HT.out.free]; exact free_ge HT.out.right
          have hfr1 : fr ≤ 16000 := by rw [← HT.out.free]; exact free_le
          obtain ⟨rn, Hrn⟩ : ∃ x, Hid (R.length = x) := ⟨_, Lib.hid rfl⟩
          have hrn : rn ≤ 16000 := by rw [← Hrn.out]; exact owe_len HRt.out HT.out.owe
          rw [Hrn.out] at HT ⊢
          clear hcells
          go_upto_if 56 with fail
          go_cut [13] (fun s wx => ∃ v : Nat, v < 20 ∧ s = .int .i64 v ∧ wx = wr)
          case first =>
            by_cases hneg : r1 < 0
            · go_wp2_with fail
              go_meet
              case rel => exact ⟨(-r1).toNat, by omega, by go_num, rfl⟩
            · go_wp2_with fail
              go_meet
              case rel => exact ⟨r1.toNat, by omega, by go_num, rfl⟩
          case rest =>
          obtain ⟨kn, hkn, rfl, hwc⟩ := hcut
          have h := hwc.symm
          clear hwc
          subst h
          clear hr1 Hr1 b10 b11 c1
          have HU := takeV_told HT.out.right (z := z3) (k := kn) (by omega)
          obtain ⟨N, S, t, hU1, hU2, hU3, hU4⟩ := HU
          have HU := Lib.hid hU1
          have HO := Lib.hid hU2
          obtain ⟨sn, Hsn⟩ : ∃ x, Hid (S.length = x) := ⟨_, Lib.hid rfl⟩
          rw [HT.out.free, Hsn.out] at hU3 hU4
          have HX3 := Lib.hid hU3
          have HX4 := Lib.hid hU4
          clear hU1 hU2 hU3 hU4
          obtain ⟨e0, e1, e2, e3⟩ := L2.out.1.below BR.out.2
          have hpl := (L2.out.1.below BR.out.2).lt
          have q0 : ∀ y : In (Abv wr), y.u.cell? ⟨q, 0, none⟩ = some (.int .i64 l.s) := fun y => (y.is.cell (p := ⟨q, 0, none⟩) hpl).trans e0
          have q1 : ∀ y : In (Abv wr), y.u.cell? ⟨q, 1, none⟩ = some (.int .i64 l.n) := fun y => (y.is.cell (p := ⟨q, 1, none⟩) hpl).trans e1
          have q2 : ∀ y : In (Abv wr), y.u.cell? ⟨q, 2, none⟩ = some (.int .i64 l.f) := fun y => (y.is.cell (p := ⟨q, 2, none⟩) hpl).trans e2
          have q3 : ∀ y : In (Abv wr), y.u.cell? ⟨q, 3, none⟩ = some (.int .i64 l.z) := fun y => (y.is.cell (p := ⟨q, 3, none⟩) hpl).trans e3
          have q4 : ∀ y : In (Abv wr), y.u.cell? ⟨b, off + j * 3, none⟩ = some (.int .i64 za) := fun y => (y.is.cell (p := ⟨b, off + j * 3, none⟩) (lt_of_cell c0)).trans c0
          have HGd := Lib.hid (HT.out.maps.below (Below.refl _ _).drew)
          go_wp2_with fail
          refine wp_region_mix (by kernel_rfl) (Cls (Abv wr)) [(0, 0), (1, 0), (2, 0), (3, 0), (4, 0), (5, 0), (6, 0), (7, 0), (8, 0), (9, 1), (10, 0), (11, 0), (12, 0), (13, 0), (14, 0), (15, 0), (16, 0)] (by kernel_rfl) (cls (Below.refl _ _).drew) ?_
          repeat (refine mix0 rfl (fun K hK => ?_); go_simp; refine hK _ ?_; clear hK K)
          refine mix1 rfl (fun K hK => ?_)
          go_simp
          refine (Take_any l Am 4 cm M1 (z3 : Int) (kn : Int) wr.drew HGd.out (by decide) HT.out.nn (HMs.out M1 HT.out.right)).mono ?_
          rw [HU.out]
          rintro e w4 ⟨⟨Aa, na, ca, va, rfl, ra, sa, na1, _, _, _⟩, b4⟩
          obtain ⟨rfl, hAa, hNa⟩ : na = 4 ∧ (Aa = none → na = 0 ∧ ca = 0) ∧ IsG w4 1 encT Aa 4 N := four_of ra HO.out.right.four
          obtain ⟨As, cs, rfl⟩ : ∃ As cs, va = .slice As sn cs := by
            obtain ⟨As, cs, e⟩ := sa.shape
            rw [Hsn.out] at e
            exact ⟨As, cs, e⟩
          have B4 : Hid (Below wr.heap.size wr w4) := Lib.hid ((Below.refl _ _).drew.trans (b4.mono (Nat.le_refl _)))
          have T4 : Hid (RG w4 1 encT (.slice Aa 4 ca) N ∧ (Aa = none → 4 = 0 ∧ ca = 0) ∧ IsG w4 1 encI As sn S ∧ (∀ g, blk (.slice Aa 4 ca) = some g → wr.drew.heap.size ≤ g)) := Lib.hid ⟨ra, hAa, (sa.is encI_ok).1, na1⟩
          have HAp : Hid (∀ g, blk (.slice Aa 4 ca) = some g → blk (.slice A7 rn c7) ≠ some g) := Lib.hid (fun g hg e => by
            have h1 := HT.out.row.lt e
            have h2 := na1 g hg
            have h3 := (Below.refl wr.heap.size wr).drew.size
            omega)
          refine ⟨_, rfl, hK _ _ (cls B4.out) ?_⟩
          clear hK K b4 ra sa na1 hAa hNa
          repeat (refine mix0 rfl (fun K hK => ?_); go_simp; refine hK _ ?_; clear hK K)
          refine mixEnd ?_
          clear q0 q1 q2 q3 q4 e0 e1 e2 e3 c0
          go_upto_region 16 with fail
          go_cut [95] (fun s wx => s = .bool false ∧ wx = w4)
          case first =>
            cases t with
            | true =>
              obtain ⟨h1, h2⟩ := HX3.out rfl
              subst h2
              go_wp2_with fail
              go_meet
              case rel => exact ⟨by first | rfl | simp [h1], rfl⟩
            | false =>
              obtain ⟨h1, h2⟩ := HX4.out rfl
              subst h2
              go_wp2_with fail
              go_meet
              case rel => exact ⟨by first | rfl | simp [h1], rfl⟩
          case rest =>
          obtain ⟨rfl, hwc⟩ := hcut
          have h := hwc.symm
          clear hwc
          subst h
          have hsf : (sn : Int) ≤ fr ∧ sn < 20 := by
            cases t with
            | true => obtain ⟨h1, h2⟩ := HX3.out rfl; omega
            | false => obtain ⟨h1, h2⟩ := HX4.out rfl; omega
          obtain ⟨hsf, hs20⟩ := hsf
          have HM4 : Hid (IsG w4 1 encT Am 4 M1 ∧ IsG w4 1 encT Aa 4 N ∧ Below W2.heap.size W2 w4) := Lib.hid ⟨HT.out.maps.below B4.out, (T4.out.1.is encT_ok).1, bnext BR.out.2 B4.out⟩
          go_wp2_with fail
          go_loopw [17] (fun i wz => ∃ i3 : Nat, i3 ≤ sn ∧ i = .int .i64 i3 ∧ Hid (Below w4.heap.size w4 wz)) (fun i _ => sn - (intOf i).toNat)
          case atStart => exact ⟨0, Nat.zero_le _, rfl, Lib.hid (Below.refl _ _)⟩
          case round =>
            obtain ⟨i3, hi3, rfl, HB⟩ := hrel
            by_cases hls : i3 < sn
            · have his : (i3 : Int) < (sn : Int) := by omega
              have hi0 : (0 : Int) ≤ (i3 : Int) := by omega
              obtain ⟨x, Hx⟩ : ∃ a, Hid (S[i3]? = some a) := ⟨S[i3]'(by have := Hsn.out; omega), Lib.hid (List.getElem?_eq_getElem _)⟩
              have hxm := List.mem_of_getElem? Hx.out
              have hxw := owe_wf HT.out.right HO.out x hxm
              obtain ⟨ht1, ht2⟩ := HO.out.turned HT.out.right hxm
              have Ht1 := Lib.hid ht1
              have Ht2 := Lib.hid ht2
              clear ht1 ht2 hxm
              obtain ⟨gx, ox, hAs, hgx, hcx⟩ := (T4.out.2.2.1.below HB.out).cells (by omega)
              subst hAs
              have d0 := hcx i3 x 0 _ Hx.out rfl
              rw [Nat.mul_one, Nat.add_zero] at d0
              obtain ⟨e0, e1, e2, e3⟩ := L2.out.1.below (bnext HM4.out.2.2 HB.out)
              have hpl := (L2.out.1.below (bnext HM4.out.2.2 HB.out)).lt
              have q0 : ∀ y : In (Abv wr), y.u.cell? ⟨q, 0, none⟩ = some (.int .i64 l.s) := fun y => (y.is.cell (p := ⟨q, 0, none⟩) hpl).trans e0
              have q1 : ∀ y : In (Abv wr), y.u.cell? ⟨q, 1, none⟩ = some (.int .i64 l.n) := fun y => (y.is.cell (p := ⟨q, 1, none⟩) hpl).trans e1
              have q2 : ∀ y : In (Abv wr), y.u.cell? ⟨q, 2, none⟩ = some (.int .i64 l.f) := fun y => (y.is.cell (p := ⟨q, 2, none⟩) hpl).trans e2
              have q3 : ∀ y : In (Abv wr), y.u.cell? ⟨q, 3, none⟩ = some (.int .i64 l.z) := fun y => (y.is.cell (p := ⟨q, 3, none⟩) hpl).trans e3
              have q4 : ∀ y : In (Abv wr), y.u.cell? ⟨gx, ox + i3, none⟩ = some (.int .i64 x) := fun y => (y.is.cell (p := ⟨gx, ox + i3, none⟩) (lt_of_cell d0)).trans d0
              clear hcx
              go_wp2_with fail
              refine wp_region_mix (by kernel_rfl) (Cls (Abv wr)) [(0, 0), (1, 0), (2, 0), (3, 0), (4, 0), (5, 0), (6, 1), (7, 0), (8, 0), (9, 0), (10, 0), (11, 0), (12, 0), (13, 0), (14, 1), (15, 0), (16, 0)] (by kernel_rfl) (cls (Below.refl _ _).drew) ?_
              repeat (refine mix0 rfl (fun K hK => ?_); go_simp; refine hK _ ?_; clear hK K)
              refine mix1 rfl (fun K hK => ?_)
              go_simp
              refine (STaken_any l Am 4 cm M1 x hxw _ (HM4.out.1.below HB.out.drew) (HMs.out M1 HT.out.right)).mono ?_
              rw [Ht1.out]
              rintro e w5 ⟨rfl, b5⟩
              have B5 : Hid (Below (wr).heap.size wr w5) := Lib.hid ((Below.refl _ _).drew.trans (b5.mono (Nat.le_refl _)))
              refine ⟨_, rfl, hK _ _ (cls B5.out) ?_⟩
              clear hK K b5
              repeat (refine mix0 rfl (fun K hK => ?_); go_simp; refine hK _ ?_; clear hK K)
              refine mix1 rfl (fun K hK => ?_)
              go_simp
              refine (STaken_any l Aa 4 ca N x hxw _ (HM4.out.2.1.below (bnext HB.out B5.out)) (HMs.out N HO.out.right)).mono ?_
              rw [Ht2.out]
              rintro e w6 ⟨rfl, b6⟩
              have B6 : Hid (Below (wr).heap.size wr w6) := Lib.hid (bnext B5.out b6)
              refine ⟨_, rfl, hK _ _ (cls B6.out) ?_⟩
              clear hK K b6
              repeat (refine mix0 rfl (fun K hK => ?_); go_simp; refine hK _ ?_; clear hK K)
              refine mixEnd ?_
              clear q0 q1 q2 q3 q4 e0 e1 e2 e3 d0
              go_wp2_with fail
              go_roundw
              case rel => exact ⟨i3 + 1, by omega, by go_num, Lib.hid (bnext HB.out B6.out)⟩
              case measure => simp [intOf]; omega
            · obtain rfl : i3 = sn := by omega
              have his : ¬ (i3 : Int) < (i3 : Int) := by omega
              obtain ⟨v8, w8, hr8, r8, a8⟩ := appG iInf encI_ok (HT.out.row.below (bnext B4.out HB.out)) (c := cs) (T4.out.2.2.1.below HB.out) (by have := Hrn.out; omega) (by decide) 30
              have HR8 := Lib.hid hr8
              obtain ⟨f2, hf2⟩ : ∃ f2, fr - (i3 : Int) = f2 := ⟨_, rfl⟩
              have hf20 : 0 ≤ f2 ∧ f2 ≤ 16000 := by omega
              obtain ⟨f20, f21⟩ := hf20
              have HF2 : Hid (freeM l N = f2) := Lib.hid (by
                have := Owe.count HT.out.right _ rfl HO.out
                rw [Hsn.out, HT.out.free] at this
                omega)
              have T8 : Hid (RG w8 1 encI v8 (R ++ S) ∧ (∀ g, blk v8 = some g → w3.heap.size ≤ g) ∧ Below w3.heap.size w3 w8 ∧ IsG w8 1 encT Aa 4 N) := Lib.hid (by
                have bU := bnext HT.out.below (bnext B4.out HB.out)
                refine ⟨r8, fun g e => ?_, a8.mod.below bU bU.size (fun i e => HT.out.new i e), ?_⟩
                · rcases a8.blk with e2 | ⟨g2, e2, h2⟩
                  · exact HT.out.new g (e2 ▸ e)
                  · rw [e2] at e
                    obtain rfl := Option.some.inj e
                    have := bU.size
                    omega
                · refine (((T4.out.1.below HB.out).later a8.mod (fun g hg e => ?_)).is encT_ok).1
                  exact HAp.out g hg e)
              clear hr8 r8 a8
              obtain ⟨A9, n9, c9, rfl⟩ : ∃ A9 n9 c9, v8 = .slice A9 n9 c9 := by
                obtain ⟨A9, c9, e⟩ := T8.out.1.shape
                exact ⟨A9, _, c9, e⟩
              have L8 := Lib.hid (L2.out.1.below (bnext B3.out T8.out.2.2.1))
              obtain ⟨e0, e1, e2, e3⟩ := L8.out
              go_wp2_with (first | (at_builtin; refine wpList_append_run rfl (.tmp 124) (.tmp 125) 30 rfl (by exact HR8.out) ?_) | fail)
              refine (SFree_any l Aa 4 ca N w8 T8.out.2.2.2 (HMs.out N HO.out.right)).mono ?_
              rw [HF2.out]
              rintro e w9 ⟨rfl, b9⟩
              have B9 := Lib.hid b9
              clear b9 e0 e1 e2 e3
              obtain ⟨e0, e1, e2, e3⟩ := L8.out.below B9.out
              go_wp2_with fail
              refine (SRight_any l Aa 4 ca N w9 (T8.out.2.2.2.below B9.out) (HMs.out N HO.out.right)).mono ?_
              rw [rightM_iff.2 HO.out.right]
              rintro e w10 ⟨rfl, b10⟩
              have B10 : Hid (Below w8.heap.size w8 w10) := Lib.hid (bnext B9.out b10)
              clear b10 e0 e1 e2 e3
              go_wp2_with fail
              go_roundw
              case rel => exact ⟨j + 1, Aa, ca, N, R ++ S, f2, by omega, by go_num, rfl, rfl, Lib.hid ⟨HO.out.right, T4.out.2.1, T8.out.2.2.2.below B10.out, Owe.trans HRt.out HT.out.owe HO.out, HF2.out, T8.out.1.below B10.out, T8.out.2.1, bnext T8.out.2.2.1 B10.out⟩⟩
              case measure => simp [intOf]; omega
        · have hj6 : ¬ (j : Int) < 12 := by omega
          have hjn : (j : Int) < (n : Int) := by omega
          go_wp2_with fail
          go_meet
          case rel => exact ⟨Am, cm, M1, R, fr, rfl, rfl, HT⟩
      · have hjn : ¬ (j : Int) < (n : Int) := by omega
        go_wp2_with fail
        go_meet
        case rel => exact ⟨Am, cm, M1, R, fr, rfl, rfl, HT⟩
  case rest =>
  obtain ⟨Am, cm, M1, R, fr, rfl, rfl, HT⟩ := hcut
  obtain ⟨A7, c7, rfl⟩ := HT.out.row.shape
  obtain ⟨rn, Hrn⟩ : ∃ x, Hid (R.length = x) := ⟨_, Lib.hid rfl⟩
  have hrn : rn ≤ 16000 := by rw [← Hrn.out]; exact owe_len HRt.out HT.out.owe
  have Hwf := Lib.hid (owe_wf HRt.out HT.out.owe)
  have HR := Lib.hid ((HT.out.row.is encI_ok).1)
  rw [Hrn.out] at HR ⊢
  have LC := Lib.hid (bnext B3.out HT.out.below)
  go_wp2_with fail
  go_loopw [8, 10, 18] (fun s f i wr => ∃ (j : Nat) (Am : Option Addr) (cm : Nat) (N : List (List UInt8)) (fr : Int), j ≤ rn ∧ i = .int .i64 ((j : Int) - 1) ∧ s = .slice Am 4 cm ∧ f = .int .i64 fr ∧ Hid (Owe l M N (R.take j) ∧ freeM l N = fr ∧ IsG wr 1 encT Am 4 N ∧ (Am = none → 4 = 0 ∧ cm = 0) ∧ Below wc.heap.size wc wr)) (fun _ _ i _ => (intOf i + 1).toNat)
  case atStart => exact ⟨rn, Am, cm, M1, fr, Nat.le_refl _, rfl, rfl, rfl, Lib.hid ⟨by rw [← Hrn.out, List.take_length]; exact HT.out.owe, HT.out.free, HT.out.maps, HT.out.nn, Below.refl _ _⟩⟩
  case round =>
    obtain ⟨j, Am, cm, N, fr, hj, rfl, rfl, rfl, HN⟩ := hrel
    by_cases hj0 : j = 0
    · subst hj0
      have HE : Hid (N = M) := Lib.hid (Owe.nil HRt.out (by have := HN.out.1; rwa [List.take_zero] at this))
      rw [HE.out] at HN
      go_wp2_with fail
      refine (SameNames_any M M Am (some ⟨g, 0, none⟩) 4 cm 4 4 wr HN.out.2.2.1 (L2.out.2.2.below (bnext LC.out HN.out.2.2.2.2)) (by decide) (by decide)).mono ?_
      rw [decide_eq_true rfl]
      rintro e w8 ⟨rfl, b8⟩
      have B8 : Hid (Below w.heap.size w w8) := Lib.hid (bnext L2.out.2.1 (bnext LC.out (bnext HN.out.2.2.2.2 b8)))
      clear b8
      go_wp2
      go_ret
      exact ⟨ret_bool (by first | rfl | simp), B8.out⟩
    · obtain ⟨i, rfl⟩ : ∃ i, j = i + 1 := ⟨j - 1, by omega⟩
      obtain ⟨x, Hx⟩ : ∃ a, Hid (R[i]? = some a) := ⟨R[i]'(by have := Hrn.out; omega), Lib.hid (List.getElem?_eq_getElem _)⟩
      have hxw := Hwf.out x (List.mem_of_getElem? Hx.out)
      obtain ⟨N', hg1, hg2, hg3⟩ := give_last HRt.out HN.out.1 Hx.out
      have HG1 := Lib.hid hg1
      have HG2 := Lib.hid hg2
      have HG3 : Hid (freeM l N' = fr + 1) := Lib.hid (by rw [hg3, HN.out.2.1])
      clear hg1 hg2 hg3
      have hfr0 : 0 ≤ fr := by rw [← HN.out.2.1]; exact free_ge HN.out.1.right
      have hfr1 : fr ≤ 16000 := by rw [← HN.out.2.1]; exact free_le
      obtain ⟨gx, ox, hAs, hgx, hcx⟩ := (HR.out.below HN.out.2.2.2.2).cells (by omega)
      subst hAs
      have d0 := hcx i x 0 _ Hx.out rfl
      rw [Nat.mul_one, Nat.add_zero] at d0
      have hii : ((i + 1 : Nat) : Int) - 1 = (i : Int) := by omega
      rw [hii]
      have hi0 : (0 : Int) ≤ (i : Int) := by omega
      have hin : (i : Int) < (rn : Int) := by omega
      have hinn : i < rn := by omega
      obtain ⟨e0, e1, e2, e3⟩ := L2.out.1.below (bnext LC.out HN.out.2.2.2.2)
      have hpl := (L2.out.1.below (bnext LC.out HN.out.2.2.2.2)).lt
      have q0 : ∀ y : In (Abv wr), y.u.cell? ⟨q, 0, none⟩ = some (.int .i64 l.s) := fun y => (y.is.cell (p := ⟨q, 0, none⟩) hpl).trans e0
      have q1 : ∀ y : In (Abv wr), y.u.cell? ⟨q, 1, none⟩ = some (.int .i64 l.n) := fun y => (y.is.cell (p := ⟨q, 1, none⟩) hpl).trans e1
      have q2 : ∀ y : In (Abv wr), y.u.cell? ⟨q, 2, none⟩ = some (.int .i64 l.f) := fun y => (y.is.cell (p := ⟨q, 2, none⟩) hpl).trans e2
      have q3 : ∀ y : In (Abv wr), y.u.cell? ⟨q, 3, none⟩ = some (.int .i64 l.z) := fun y => (y.is.cell (p := ⟨q, 3, none⟩) hpl).trans e3
      have q4 : ∀ y : In (Abv wr), y.u.cell? ⟨gx, ox + i, none⟩ = some (.int .i64 x) := fun y => (y.is.cell (p := ⟨gx, ox + i, none⟩) (lt_of_cell d0)).trans d0
      clear hcx
      go_wp2_with fail
      refine wp_region_mix (by kernel_rfl) (Cls (Abv wr)) [(0, 0), (1, 0), (2, 0), (3, 0), (4, 0), (5, 0), (6, 1), (7, 1), (8, 0), (9, 0), (10, 0), (11, 0), (12, 0)] (by kernel_rfl) (cls (Below.refl _ _).drew) ?_
      repeat (refine mix0 rfl (fun K hK => ?_); go_simp; refine hK _ ?_; clear hK K)
      refine mix1 rfl (fun K hK => ?_)
      go_simp
      obtain ⟨U, HU⟩ : ∃ u, Hid ((wr.alloc (.cells #[.int .i64 x] 3)).drew = u) := ⟨_, Lib.hid rfl⟩
      obtain ⟨sz, Hsz⟩ : ∃ s, Hid (wr.heap.size = s) := ⟨_, Lib.hid rfl⟩
      have BU : Hid (Below wr.heap.size wr U ∧ IsG U 1 encI (some ⟨sz, 0, none⟩) 1 [x]) := Lib.hid (by
        rw [← HU.out, ← Hsz.out]
        exact ⟨(balloc (Below.refl _ _) _).drew, (i_one wr x).below (Below.refl _ _).drew⟩)
      rw [HU.out, Hsz.out]
      refine hK _ _ (cls BU.out.1) ?_
      clear hK K
      refine mix1 rfl (fun K hK => ?_)
      go_simp
      refine (Give_any l Am 4 cm N (some ⟨sz, 0, none⟩) 1 1 [x] U (HN.out.2.2.1.below BU.out.1) (by decide) HN.out.2.2.2.1 (HMs.out N HN.out.1.right) BU.out.2 (fun y hy => by simp at hy; subst hy; exact hxw)).mono ?_
      rw [HG1.out]
      rintro e w5 ⟨⟨Ac, nc, cc, rfl, rc, _⟩, b5⟩
      obtain ⟨rfl, hc5, hc6⟩ := four_of rc HG2.out.right.four
      have T5 : Hid (Below wr.heap.size wr w5 ∧ IsG w5 1 encT Ac 4 N' ∧ (Ac = none → 4 = 0 ∧ cc = 0)) := Lib.hid ⟨bnext BU.out.1 b5, hc6, hc5⟩
      refine ⟨_, rfl, hK _ _ (cls T5.out.1) ?_⟩
      clear hK K b5 rc hc5 hc6
      repeat (refine mix0 rfl (fun K hK => ?_); go_simp; refine hK _ ?_; clear hK K)
      refine mixEnd ?_
      clear q0 q1 q2 q3 q4 e0 e1 e2 e3 d0
      obtain ⟨e0, e1, e2, e3⟩ := L2.out.1.below (bnext LC.out (bnext HN.out.2.2.2.2 T5.out.1))
      go_wp2_with fail
      refine (SFree_any l Ac 4 cc N' w5 T5.out.2.1 (HMs.out N' HG2.out.right)).mono ?_
      rw [HG3.out]
      rintro e w6 ⟨rfl, b6⟩
      have B6 : Hid (Below wr.heap.size wr w6 ∧ Below w5.heap.size w5 w6) := Lib.hid ⟨bnext T5.out.1 b6, b6⟩
      clear b6 e0 e1 e2 e3
      go_wp2_with fail
      go_roundw
      case rel => exact ⟨i, Ac, cc, N', fr + 1, by omega, by go_num, rfl, by go_num, Lib.hid ⟨HG2.out, HG3.out, T5.out.2.1.below B6.out.2, (fun e => ⟨by have := (T5.out.2.2 e).1; omega, (T5.out.2.2 e).2⟩), bnext HN.out.2.2.2.2 B6.out.1⟩⟩
      case measure => simp [intOf]
theorem own : ownKnob Try.prog.godebug = none := by kernel_rfl
theorem laidOut : laidOutB Try.prog = true := by kernel_rfl
set_option maxRecDepth 100000 in
theorem lifted (os : Os) (started : os.Started) (H : Type) (enc : TypeId × Value → H) :
    ReturnsInHanded {} Try.checked os 3 .any (Rows.spaceTurnsSpec.pre6 enc Try.prog Try.f3 Rows.spaceTurnsRow.domain false) (Rows.spaceTurnsSpec.post enc Try.prog Try.f3 false true false false) := by
  refine returnsInHanded_of_change (C := Try.checked) own started (by kernel_rfl) Try.func3
    (ChangeSpec.witness6 (enc := enc) (C := Try.checked) false ⟨#[], #[.int .i64 0, .slice none 0 0], []⟩ 8 (by kernel_rfl) (by kernel_rfl) (by kernel_rfl) (by kernel_rfl)) ?_
  intro W base args ds gs before hval0 hW hcnd _
  have hval : ∀ (j : Nat) t v, Try.f3.params[j]? = some t → args[j]? = some v → Value.okWide Try.prog W .any base t v := hval0
  have hW' := hW
  obtain ⟨p, q, hA0, hV, rfl, hfz, hnd⟩ := hW
  have hA : DataW.TrodAll enc Try.prog W 0 (fun _ => true) true Try.f3.params.toList args.toList ds p := hA0
  rw [Try.params3] at hA hval
  obtain ⟨v0, vs0, d0, ds0, p0, q0, hargs, rfl, rfl, h0, r0⟩ := trodAll_cons hA
  obtain ⟨v1, vs1, d1, ds1, p1, q1, rfl, rfl, rfl, h1, r1⟩ := trodAll_cons r0
  obtain ⟨rfl, rfl, rfl⟩ := trodAll_nil r1
  obtain rfl : args = #[v0, v1] := by cases args; simp_all
  obtain ⟨a0, rfl, rfl, rfl, w0⟩ := open_int Try.underlying3 (hval 0 3 v0 rfl rfl) h0
  obtain ⟨x1, len1, cap1, a1, rfl, w1, y1⟩ := opens_asks (hval 1 22 v1 rfl rfl) h1
  clear hA0 hval0
  refine (walk a0 x1 len1 cap1 a1 W w0 w1 y1).mono fun e W' ⟨he, bel⟩ => ?_
  subst he
  exact ⟨_, rfl, law_post laidOut (by rw [Try.params3]; decide +kernel) rfl Try.underlying4 rfl hW' (fun _ => rfl) bel⟩
theorem over : Rows.spaceTurnsRow.holds Try.pinned (OpenSpec.ofChange Rows.spaceTurnsSpec) :=
  OpenClaim.holds_of_wide 3 Try.f3 rfl rfl rfl rfl rfl rfl rfl ⟨rfl, rfl, rfl, rfl, rfl⟩ rfl rfl rfl rfl rfl (by kernel_rfl) Try.func3 (by kernel_rfl)
    (of_decide_eq_true (by kernel_rfl)) (by unfold Func.isWrapper; first | (rw [if_pos (by decide +kernel)]; kernel_rfl) | (rw [if_neg (by decide +kernel)]; exact ⟨rfl, rfl⟩))
    (fun os started H enc _ => lifted os started H enc)
theorem proved : Rows.SpaceTurnsSaid := over
end Go.Proofs.Ytoakjcmhmlngfaa.spaceTurns
