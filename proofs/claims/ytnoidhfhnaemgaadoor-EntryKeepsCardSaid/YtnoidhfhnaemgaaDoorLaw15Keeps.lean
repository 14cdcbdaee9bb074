/- Names are found as they were put, and not once they were dropped: EntryKeeps. -/
import Derived.Test.YtnoidhfhnaemgaaDoorTied15
import Derived.Test.YtnoidhfhnaemgaaDoorKq15
import Derived.Test.YtnoidhfhnaemgaaDoorMixY
import Derived.Deep.CutBlock
import Derived.Deep.DeepCutAuto
namespace Go.Proofs.YtnoidhfhnaemgaaDoor.entryKeeps
open Go.RowKit Go.ChangeShapes Go.WideShapes Go.ChangeAt
open Go.ChangeMaps (open_string shut_string)

theorem and_mask15 (x : Int) (m : Nat) (hm : m ≤ 9223372036854775807) : ∃ k : Nat, Hid (bits .and .i64 x (m : Int) = (k : Int)) ∧ k ≤ m := by
  have h2 : (BitVec.ofInt 64 x &&& BitVec.ofInt 64 (m : Int)).toNat ≤ m := by
    rw [BitVec.toNat_and]
    have e : (BitVec.ofInt 64 (m : Int)).toNat = m := by simp; omega
    rw [e]
    exact Nat.and_le_right
  refine ⟨(BitVec.ofInt 64 x &&& BitVec.ofInt 64 (m : Int)).toNat, Lib.hid ?_, h2⟩
  show IntKind.i64.wrap ((BitVec.ofInt 64 x &&& BitVec.ofInt 64 (m : Int)).toNat : Int) = _
  rw [IntWalk.i64_in _ (by omega)]
theorem at_last {N : List (List UInt8)} {t : List UInt8} {k : Nat} {a : Int} {s : List UInt8} (h : (∃ j : Nat, N[j]? = some t ∧ a = j) ∨ (a = -1 ∧ ∀ j, j < k → N[j]? ≠ some t)) (hs : N[k]? = some s) (hn : s ≠ t) : (∃ j : Nat, N[j]? = some t ∧ a = j) ∨ (a = -1 ∧ ∀ j, j < k + 1 → N[j]? ≠ some t) := by
  rcases h with h | ⟨h1, h2⟩
  · exact .inl h
  · refine .inr ⟨h1, fun j hj e => ?_⟩
    rcases Nat.lt_succ_iff_lt_or_eq.1 hj with h3 | h3
    · exact h2 j h3 e
    · subst h3; exact hn (Option.some.inj (hs.symm.trans e))
theorem upL_take {S : List Int} {k : Nat} {x : Int} (h : S[k]? = some x) : upL (S.take (k + 1)) = upL (S.take k) + if 0 ≤ x then 1 else 0 := by
  rw [upL, upL, take_some h, List.filter_append, List.length_append]
  congr 1
  by_cases h0 : 0 ≤ x <;> simp [h0]
theorem upL_le (S : List Int) : upL S ≤ S.length := List.length_filter_le _ _
set_option maxRecDepth 100000 in
set_option maxHeartbeats 8000000 in
theorem walk (A : Option Addr) (n c : Nat) (a : List Ent) (w : World) (ha : IsG w 2 encN A n a) (hwa : ∀ e ∈ a, wfN e) (hm : Mx w) :
    Calls Tryd.prog 6 #[.slice A n c] w fun e w' => e = .returned (.bool true) ∧ Below w.heap.size w w' := by
  have Ha := Lib.hid ha
  have ha2 : ∀ e ∈ a, e.1.length ≤ 9223372036854775807 := fun e he => by have := (hwa e he).1; unfold maxLen at this; omega
  have hlen := ha.length
  clear ha hwa
  go_enter Tryd.func6, Tryd.ntmps6
  go_wp2_with fail
  refine (awk15_any w hm).mono ?_
  rintro e w1 ⟨rfl, b1⟩
  have B1 := Lib.hid b1
  clear b1 hm
  go_upto_block 0 with (fail)
  go_cut [4, 5, 6] (fun m ns sc wx => ∃ (M : List Ent) (N : List (List UInt8)) (S : List Int), N.length ≤ 40 ∧ Hid (Ks w wx M N S m ns sc))
  case first =>
    go_wp2_with fail
    go_loopw [4, 5, 6, 7] (fun m ns sc i wr => ∃ (j : Nat) (M : List Ent) (N : List (List UInt8)) (S : List Int), j ≤ n ∧ j ≤ 40 ∧ i = .int .i64 j ∧ N.length ≤ j ∧ Hid (Ks w wr M N S m ns sc)) (fun _ _ _ i _ => 40 - (intOf i).toNat)
    case atStart => exact ⟨0, [], [], [], Nat.zero_le _, Nat.zero_le _, rfl, Nat.zero_le _, Lib.hid ⟨Kp.nil, RG.nil _ _ _, RG.nil _ _ _, RG.nil _ _ _, (fun g e => by cases e), (fun g e => by cases e), (fun g e => by cases e), (fun g e => by cases e), (fun g e => by cases e), (fun g e => by cases e), B1.out⟩⟩
    case round =>
      obtain ⟨j, M, N, S, hj, hj40, rfl, hNl, HK⟩ := hrel
      obtain ⟨A2, c2, rfl⟩ := HK.out.rm.shape
      obtain ⟨A3, c3, rfl⟩ := HK.out.rn.shape
      obtain ⟨A4, c4, rfl⟩ := HK.out.rs.shape
      obtain ⟨dm, Hdm⟩ : ∃ dn, Hid (M.length = dn) := ⟨_, Lib.hid rfl⟩
      obtain ⟨dn, Hdn⟩ : ∃ dn, Hid (N.length = dn) := ⟨_, Lib.hid rfl⟩
      obtain ⟨ds, Hds⟩ : ∃ dn, Hid (S.length = dn) := ⟨_, Lib.hid rfl⟩
      have Hsd : Hid (ds = dn) := Lib.hid (by rw [← Hds.out, ← Hdn.out, HK.out.kp.len])
      have hds : ds ≤ 40 := by have := Hsd.out; rw [Hdn.out] at hNl; omega
      have hdm : dm ≤ 40 := by rw [← Hdm.out, HK.out.kp.cnt]; have := upL_le S; rw [Hds.out] at this; omega
      rw [Hdn.out] at hNl
      rw [Hdm.out, Hdn.out, Hds.out] at HK ⊢
      by_cases hlt : j < n
      · by_cases h40 : j < 40
        · have hjn : (j : Int) < (n : Int) := by omega
          have hj1 : (j : Int) < 40 := by omega
          have hj0 : (0 : Int) ≤ (j : Int) := by omega
          obtain ⟨⟨s, x⟩, Hx⟩ : ∃ z, Hid (a[j]? = some z) := ⟨a[j]'(by omega), Lib.hid (List.getElem?_eq_getElem _)⟩
          obtain ⟨g, off, hAe, hgl, e0, e1⟩ := (Ha.out.below HK.out.below).ent Hx.out
          subst hAe
          have hxl := ha2 _ (List.mem_of_getElem? Hx.out)
          have q0 : ∀ y : In (Abv wr), y.u.cell? ⟨g, off + j * 2, none⟩ = some (.string (str s)) := fun y => (y.is.cell (p := ⟨g, off + j * 2, none⟩) hgl).trans e0
          have q1 : ∀ y : In (Abv wr), y.u.cell? ⟨g, off + j * 2 + 1, none⟩ = some (.int .i64 x) := fun y => (y.is.cell (p := ⟨g, off + j * 2 + 1, none⟩) hgl).trans e1
          obtain ⟨t, Ht⟩ : ∃ t, Hid (s.take 60 = t) := ⟨_, Lib.hid rfl⟩
          have htl : t.length ≤ 60 := by rw [← Ht.out, List.length_take]; omega
          obtain ⟨y, Hy, hy⟩ := and_mask15 x 65535 (by decide)
          have hyb : bits .and .i64 x 65535 = (y : Int) := Hy.out
          go_upto_region 8 with (fail)
          go_cut [8] (fun s9 wx => ∃ q : Nat, s9 = .pointer (some ⟨q, 0, none⟩) ∧ Hid (wx.cell? ⟨q, 0, none⟩ = some (.string (str t)) ∧ wx.cell? ⟨q, 1, none⟩ = some (.int .i64 (y : Int)) ∧ Below wr.heap.size wr wx ∧ wr.heap.size ≤ q))
          case first =>
            refine wp_region_mixY (by kernel_rfl) (Cls (Abv wr)) 13 [(0, 0), (1, 0), (2, 0), (3, 0), (4, 0), (6, 0), (7, 0), (8, 0), (9, 0), (10, 0), (11, 0), (5, 1), (12, 0)] [(14, 2)] (by kernel_rfl) (cls (Below.refl _ _).drew) ?_
            repeat (refine mixY0 rfl (fun K hK => ?_); go_simp; (try rw [hyb]); refine hK _ ?_; clear hK K)
            refine mixY1 rfl rfl (fun K hK => ?_) (fun K hK => ?_)
            · go_simp
              refine hK _ _ (cls (balloc (Below.refl _ _) _).drew) ?_
              clear hK K
              refine mix1 rfl (fun K hK => ?_)
              go_simp
              refine (short15_any s 60 (by decide) hxl _).mono ?_
              rw [Ht.out]
              rintro e w2 ⟨rfl, rfl⟩
              refine ⟨_, rfl, hK _ _ (cls (balloc (Below.refl _ _) _).drew) ?_⟩
              clear hK K
              repeat (refine mix0 rfl (fun K hK => ?_); go_simp; refine hK _ ?_; clear hK K)
              refine mix2 rfl (fun K hK => ?_)
              go_simp
              refine hK _ _ ?_
              clear hK K
              refine mixEnd ?_
              go_wp2_with fail
              go_meet
              case rel => exact ⟨wr.heap.size, rfl, Lib.hid ⟨by go_simp, by go_simp, (balloc (Below.refl _ _) _).drew, Nat.le_refl _⟩⟩
            · go_simp
              refine (short15_any s 60 (by decide) hxl _).mono ?_
              rw [Ht.out]
              rintro e w2 ⟨rfl, rfl⟩
              refine ⟨_, rfl, hK _ _ (cls (Below.refl _ _).drew) ?_⟩
              clear hK K
              repeat (refine mixY0 rfl (fun K hK => ?_); go_simp; refine hK _ ?_; clear hK K)
              refine mixYe rfl (fun K hK => ?_)
              go_simp
              refine hK _ _ (cls (balloc (Below.refl _ _) _).drew) ?_
              clear hK K
              repeat (refine mix0 rfl (fun K hK => ?_); go_simp; refine hK _ ?_; clear hK K)
              refine mix2 rfl (fun K hK => ?_)
              go_simp
              refine hK _ _ ?_
              clear hK K
              refine mixEnd ?_
              go_wp2_with fail
              go_meet
              case rel => exact ⟨wr.heap.size, rfl, Lib.hid ⟨by go_simp, by go_simp, (balloc (Below.refl _ _) _).drew, Nat.le_refl _⟩⟩
          case rest =>
          obtain ⟨q, rfl, HQ⟩ := hcut
          have k0 := HQ.out.1
          obtain ⟨nb, Hnb⟩ : ∃ z, Hid (nameB t = z) := ⟨_, Lib.hid rfl⟩
          clear q0 q1 e0 e1 hyb
          go_wp2_with fail
          refine (Name_any t wc).mono ?_
          rw [Hnb.out]
          rintro e w5 ⟨rfl, b5⟩
          have T5 : Hid (w5.cell? ⟨q, 0, none⟩ = some (.string (str t)) ∧ w5.cell? ⟨q, 1, none⟩ = some (.int .i64 (y : Int)) ∧ Below wr.heap.size wr w5) := Lib.hid ⟨(b5.cell (p := ⟨q, 0, none⟩) (lt_of_cell HQ.out.1)).trans HQ.out.1, (b5.cell (p := ⟨q, 1, none⟩) (lt_of_cell HQ.out.2.1)).trans HQ.out.2.1, bnext HQ.out.2.2.1 b5⟩
          clear b5 k0
          have HQge : Hid (wr.heap.size ≤ q) := Lib.hid HQ.out.2.2.2
          have HK5 := Lib.hid (HK.out.later T5.out.2.2)
          have HQn : Hid (∀ g, g < wr.heap.size → g ≠ q) := Lib.hid (fun g hg e => by have := HQge.out; omega)
          have HQa : Hid (¬ blk (.slice A3 dn c3) = some q ∧ ¬ blk (.slice A4 ds c4) = some q) := Lib.hid ⟨fun e => HQn.out q (HK.out.rn.lt e) rfl, fun e => HQn.out q (HK.out.rs.lt e) rfl⟩
          cases nb with
          | false =>
            go_wp2_with fail
            go_roundw
            case rel => exact ⟨j + 1, M, N, S, by omega, by omega, by go_num, by rw [Hdn.out]; omega, HK5⟩
            case measure => simp [intOf]; omega
          | true =>
            go_wp2_with fail
            go_loopw [9, 10] (fun at_ k wz => ∃ (k3 : Nat) (av : Int), k3 ≤ dn ∧ k = .int .i64 k3 ∧ at_ = .int .i64 av ∧ -1 ≤ av ∧ av ≤ 40 ∧ Hid ((∃ j : Nat, N[j]? = some t ∧ av = j) ∨ (av = -1 ∧ ∀ j, j < k3 → N[j]? ≠ some t)) ∧ Hid (Below w5.heap.size w5 wz)) (fun _ k _ => dn - (intOf k).toNat)
            case atStart => exact ⟨0, -1, Nat.zero_le _, rfl, rfl, by omega, by omega, Lib.hid (.inr ⟨rfl, fun j hj => absurd hj (Nat.not_lt_zero _)⟩), Lib.hid (Below.refl _ _)⟩
            case round =>
              obtain ⟨k3, av, hk3, rfl, rfl, hav0, hav1, HAt, HZ⟩ := hrel
              by_cases hlk : k3 < dn
              · have hki : (k3 : Int) < (dn : Int) := by omega
                have hk0 : (0 : Int) ≤ (k3 : Int) := by omega
                obtain ⟨s3, Hs3⟩ : ∃ z, Hid (N[k3]? = some z) := ⟨N[k3]'(by have := Hdn.out; omega), Lib.hid (List.getElem?_eq_getElem _)⟩
                obtain ⟨gx, ox, hAs, cx⟩ := ((HK5.out.rn.is encT_ok).1.below HZ.out).txt Hs3.out
                subst hAs
                have cq := (HZ.out.cell (p := ⟨q, 0, none⟩) (lt_of_cell T5.out.1)).trans T5.out.1
                have q0 : ∀ z : In (Abv wr), z.u.cell? ⟨gx, ox + k3, none⟩ = some (.string (str s3)) := fun z => (z.is.cell (p := ⟨gx, ox + k3, none⟩) (lt_of_cell cx)).trans cx
                have q1 : ∀ z : In (Abv wr), z.u.cell? ⟨q, 0, none⟩ = some (.string (str t)) := fun z => (z.is.cell (p := ⟨q, 0, none⟩) (lt_of_cell cq)).trans cq
                by_cases he : s3 = t
                · have hb : (s3 == t) = true := by simp [he]
                  have HAt2 : Hid ((∃ j : Nat, N[j]? = some t ∧ (k3 : Int) = j) ∨ ((k3 : Int) = -1 ∧ ∀ j, j < k3 + 1 → N[j]? ≠ some t)) := Lib.hid (.inl ⟨k3, by rw [Hs3.out, he], rfl⟩)
                  clear he
                  go_wp2_with fail
                  refine wp_region_mix (by kernel_rfl) (Cls (Abv wr)) [(0, 0), (1, 0), (2, 0), (3, 0), (4, 0), (5, 0), (6, 0)] (by kernel_rfl) (cls (Below.refl _ _).drew) ?_
                  repeat (refine mix0 rfl (fun K hK => ?_); go_simp; (try rw [hb]); refine hK _ ?_; clear hK K)
                  refine mixEnd ?_
                  clear q0 q1 cq cx hb
                  go_wp2_with fail
                  go_roundw
                  case rel => exact ⟨k3 + 1, k3, by omega, by go_num, rfl, by omega, by omega, HAt2, Lib.hid HZ.out.drew⟩
                  case measure => simp [intOf]; omega
                · have hb : (s3 == t) = false := by simp [he]
                  have HAt2 := Lib.hid (at_last HAt.out Hs3.out he)
                  clear he
                  go_wp2_with fail
                  refine wp_region_mix (by kernel_rfl) (Cls (Abv wr)) [(0, 0), (1, 0), (2, 0), (3, 0), (4, 0), (5, 0), (6, 0)] (by kernel_rfl) (cls (Below.refl _ _).drew) ?_
                  repeat (refine mix0 rfl (fun K hK => ?_); go_simp; (try rw [hb]); refine hK _ ?_; clear hK K)
                  refine mixEnd ?_
                  clear q0 q1 cq cx hb
                  go_wp2_with fail
                  go_roundw
                  case rel => exact ⟨k3 + 1, av, by omega, by go_num, rfl, hav0, hav1, HAt2, Lib.hid HZ.out.drew⟩
                  case measure => simp [intOf]; omega
              · obtain rfl : k3 = dn := by omega
                have hki : ¬ (k3 : Int) < (k3 : Int) := by omega
                have hpos : dm ≤ 5000 := by omega
                have KZ := Lib.hid (HK5.out.later HZ.out)
                have TZ : Hid (wr.cell? ⟨q, 0, none⟩ = some (.string (str t)) ∧ wr.cell? ⟨q, 1, none⟩ = some (.int .i64 (y : Int))) := Lib.hid ⟨(HZ.out.cell (p := ⟨q, 0, none⟩) (lt_of_cell T5.out.1)).trans T5.out.1, (HZ.out.cell (p := ⟨q, 1, none⟩) (lt_of_cell T5.out.2.1)).trans T5.out.2.1⟩
                go_upto_if 62 with fail
                go_cut [5, 6, 9] (fun ns sc at_ wx => ∃ (N2 : List (List UInt8)) (S2 : List Int) (k : Nat) (x2 : Int), N2.length ≤ j + 1 ∧ at_ = .int .i64 k ∧ k < 41 ∧ Hid (N2[k]? = some t ∧ S2[k]? = some x2) ∧ Hid (Ks w wx M N2 S2 (.slice A2 dm c2) ns sc) ∧ Hid (wx.cell? ⟨q, 0, none⟩ = some (.string (str t)) ∧ wx.cell? ⟨q, 1, none⟩ = some (.int .i64 (y : Int))))
                case first =>
                  by_cases hneg : av < 0
                  · have HNo : Hid (t ∉ N) := Lib.hid (fun hm => by
                      rcases HAt.out with ⟨i, _, e⟩ | ⟨_, h2⟩
                      · omega
                      · obtain ⟨i, hi, e⟩ := List.getElem_of_mem hm
                        exact h2 i (by have := Hdn.out; omega) (by rw [List.getElem?_eq_getElem hi, e]))
                    have k0 := TZ.out.1
                    obtain ⟨W, HW⟩ : ∃ W, Hid (wr.alloc (.cells #[.string (str t)] 9) = W) := ⟨_, Lib.hid rfl⟩
                    obtain ⟨p, Hp⟩ : ∃ p, Hid (wr.heap.size = p) := ⟨_, Lib.hid rfl⟩
                    have hbW : Below wr.heap.size wr W := by rw [← HW.out]; exact balloc (Below.refl _ _) _
                    have hI : IsG W 1 encT (some ⟨p, 0, none⟩) 1 [t] := by rw [← HW.out, ← Hp.out]; exact t_one wr t _
                    obtain ⟨v8, w8, hr8, r8, a8⟩ := appG tInf encT_ok (KZ.out.rn.below hbW) (c := 1) hI (by rw [Hdn.out]; omega) (by decide) 24
                    have HR8 := Lib.hid hr8
                    obtain ⟨V, HV⟩ : ∃ W, Hid (w8.alloc (.cells #[.int .i64 (-1)] 3) = W) := ⟨_, Lib.hid rfl⟩
                    obtain ⟨p2, Hp2⟩ : ∃ p, Hid (w8.heap.size = p) := ⟨_, Lib.hid rfl⟩
                    have hbV : Below w8.heap.size w8 V := by rw [← HV.out]; exact balloc (Below.refl _ _) _
                    have hI2 : IsG V 1 encI (some ⟨p2, 0, none⟩) 1 [(-1 : Int)] := by rw [← HV.out, ← Hp2.out]; exact i_one w8 (-1) _
                    have mA : Mod (fun g => blk (.slice A3 k3 c3) = some g) wr w8 := (Mod.of_below hbW).trans a8.mod
                    obtain ⟨v9, w9, hr9, r9, a9⟩ := appG iInf encI_ok ((KZ.out.rs.later mA (fun g hg e => KZ.out.a3 g e hg)).below hbV) (c := 1) hI2 (by rw [Hds.out]; omega) (by decide) 42
                    have HR9 := Lib.hid hr9
                    have mB : Mod (fun g => blk (.slice A4 ds c4) = some g) w8 w9 := (Mod.of_below hbV).trans a9.mod
                    have F9 : Hid (Ks w w9 M (N ++ [t]) (S ++ [-1]) (.slice A2 dm c2) v8 v9 ∧ w9.cell? ⟨q, 0, none⟩ = some (.string (str t)) ∧ w9.cell? ⟨q, 1, none⟩ = some (.int .i64 (y : Int))) := Lib.hid (by
                      refine ⟨KZ.out.more HNo.out Hnb.out r8 mA ?_ r9 mB ?_, ?_, ?_⟩
                      · rcases a8.blk with e | ⟨g2, e, h2⟩
                        · exact .inl e
                        · exact .inr ⟨g2, e, Nat.le_trans hbW.size h2⟩
                      · rcases a9.blk with e | ⟨g2, e, h2⟩
                        · exact .inl e
                        · exact .inr ⟨g2, e, Nat.le_trans hbV.size h2⟩
                      · exact (mB.cell (p := ⟨q, 0, none⟩) (Nat.lt_of_lt_of_le (lt_of_cell TZ.out.1) mA.size) HQa.out.2).trans ((mA.cell (p := ⟨q, 0, none⟩) (lt_of_cell TZ.out.1) HQa.out.1).trans TZ.out.1)
                      · exact (mB.cell (p := ⟨q, 1, none⟩) (Nat.lt_of_lt_of_le (lt_of_cell TZ.out.2) mA.size) HQa.out.2).trans ((mA.cell (p := ⟨q, 1, none⟩) (lt_of_cell TZ.out.2) HQa.out.1).trans TZ.out.2))
                    have HX : Hid ((N ++ [t])[k3]? = some t ∧ (S ++ [(-1 : Int)])[k3]? = some (-1)) := Lib.hid (by
                      constructor
                      · rw [List.getElem?_append_right (by rw [Hdn.out]; exact Nat.le_refl _), Hdn.out, Nat.sub_self]; rfl
                      · rw [List.getElem?_append_right (by rw [Hds.out, Hsd.out]; exact Nat.le_refl _), Hds.out, Hsd.out, Nat.sub_self]; rfl)
                    have hl8 : Hid ((N ++ [t]).length = k3 + 1) := Lib.hid (by rw [List.length_append, Hdn.out]; rfl)
                    clear hbW hI hr8 hr9 hbV hI2 a8 a9 mA mB r9
                    obtain ⟨A8, c8, rfl⟩ : ∃ A8 c8, v8 = .slice A8 (k3 + 1) c8 := by
                      obtain ⟨A8, c8, e⟩ := r8.shape
                      exact ⟨A8, c8, by rw [e, hl8.out]⟩
                    obtain ⟨A9, n9, c9, rfl⟩ : ∃ A9 n9 c9, v9 = .slice A9 n9 c9 := by
                      obtain ⟨A9, c9, e⟩ := F9.out.1.rs.shape
                      exact ⟨A9, _, c9, e⟩
                    clear r8
                    go_wp2_with (first | (at_builtin; rw [HW.out, Hp.out]; refine wpList_append_run rfl (.tmp 63) (.tmp 66) 24 rfl (by exact HR8.out) ?_) | (at_builtin; rw [HV.out, Hp2.out]; refine wpList_append_run rfl (.tmp 68) (.tmp 69) 42 rfl (by exact HR9.out) ?_) | fail)
                    go_meet
                    case rel => exact ⟨N ++ [t], S ++ [-1], k3, -1, by rw [hl8.out]; omega, by go_num, by omega, HX, Lib.hid F9.out.1, Lib.hid F9.out.2⟩
                  · obtain ⟨k, x2, HX⟩ : ∃ (k : Nat) (x2 : Int), Hid (N[k]? = some t ∧ S[k]? = some x2 ∧ av = k) := by
                      rcases HAt.out with ⟨i, h1, h2⟩ | ⟨h1, _⟩
                      · have hil := (List.getElem?_eq_some_iff.1 h1).1
                        exact ⟨i, S[i]'(by rw [HK.out.kp.len]; exact hil), Lib.hid ⟨h1, List.getElem?_eq_getElem _, h2⟩⟩
                      · omega
                    obtain rfl : av = (k : Int) := HX.out.2.2
                    go_wp2_with fail
                    go_meet
                    case rel => exact ⟨N, S, k, x2, by rw [Hdn.out]; omega, rfl, by omega, Lib.hid ⟨HX.out.1, HX.out.2.1⟩, KZ, TZ⟩
                case rest =>
                obtain ⟨N2, S2, k, x2, hN2, rfl, hk41, HX2, HK2, HQ2⟩ := hcut
                have hkS := (List.getElem?_eq_some_iff.1 HX2.out.2).1
                obtain ⟨A9, c9, hsc⟩ := HK2.out.rs.shape
                subst hsc
                obtain ⟨d9, Hd9⟩ : ∃ z, Hid (S2.length = z) := ⟨_, Lib.hid rfl⟩
                rw [Hd9.out] at HK2 ⊢
                have hkd : k < d9 := by rw [← Hd9.out]; exact hkS
                obtain ⟨gs, os, hAs, hgs, _⟩ := (HK2.out.rs.is encI_ok).1.cells (by omega)
                subst hAs
                have hd := HK2.out.rs.cell encI_ok HX2.out.2 (j := 0) rfl
                rw [Nat.mul_one, Nat.add_zero] at hd
                have HD := Lib.hid hd
                clear hd
                have hki : (k : Int) < (d9 : Int) := by omega
                have hk0 : (0 : Int) ≤ (k : Int) := by omega
                obtain ⟨k0, k1⟩ := HQ2.out
                by_cases hodd : y % 2 = 1
                · have ho2 : (y : Int) % 2 = 1 := by omega
                  have ho1 : (y : Int).tmod 2 = 1 := by rw [Int.tmod_eq_emod_of_nonneg (by omega)]; exact ho2
                  obtain ⟨KD, hh⟩ := HK2.out.kp.drop HX2.out.1 HX2.out.2
                  have HKD := Lib.hid KD
                  have Hh := Lib.hid hh
                  clear KD hh
                  go_wp2_with fail
                  refine (Drop_any A2 dm c2 M t wc HK2.out.rm (by omega)).mono ?_
                  rw [Hh.out]
                  rintro e w6 ⟨v6, rfl, r6, nv6, b6⟩
                  obtain ⟨A6, c6, rfl⟩ := r6.shape
                  obtain ⟨d6, Hd6⟩ : ∃ z, Hid ((dropN M t).length = z) := ⟨_, Lib.hid rfl⟩
                  rw [Hd6.out] at r6 nv6 ⊢
                  have cs := (b6.cell (p := ⟨gs, os + k, none⟩) (lt_of_cell HD.out.1)).trans HD.out.1
                  have cf := ((Mod.of_below (S := fun _ => False) b6).frozen (p := ⟨gs, os + k, none⟩) (lt_of_cell HD.out.1) id).trans HD.out.2
                  have KT := Lib.hid (HK2.out.turn b6 r6 nv6 hkS (-1) HKD.out)
                  clear r6 nv6 b6 k0 k1
                  by_cases h0 : 0 ≤ x2
                  · have hd0 : decide (0 ≤ x2) = true := decide_eq_true h0
                    rw [hd0]
                    go_wp2_with fail
                    go_roundw
                    case rel => exact ⟨j + 1, dropN M t, N2, _, by omega, by omega, by go_num, hN2, KT⟩
                    case measure => simp [intOf]; omega
                  · have hd0 : decide (0 ≤ x2) = false := decide_eq_false h0
                    rw [hd0]
                    go_wp2_with fail
                    go_roundw
                    case rel => exact ⟨j + 1, dropN M t, N2, _, by omega, by omega, by go_num, hN2, KT⟩
                    case measure => simp [intOf]; omega
                · have ho3 : y % 2 = 0 := by omega
                  have ho2 : (y : Int) % 2 = 0 := by omega
                  have ho1 : (y : Int).tmod 2 = 0 := by rw [Int.tmod_eq_emod_of_nonneg (by omega)]; exact ho2
                  have HKD := Lib.hid (HK2.out.kp.put HX2.out.1 HX2.out.2 (v := (y : Int)) (by omega) (by omega))
                  go_wp2_with fail
                  refine (Put_any A2 dm c2 M (t, (y : Int)) wc HK2.out.rm (by omega)).mono ?_
                  rintro e w6 ⟨v6, rfl, r6, nv6, b6⟩
                  obtain ⟨A6, c6, rfl⟩ := r6.shape
                  obtain ⟨d6, Hd6⟩ : ∃ z, Hid ((putN M (t, (y : Int))).length = z) := ⟨_, Lib.hid rfl⟩
                  rw [Hd6.out] at r6 nv6 ⊢
                  have cs := (b6.cell (p := ⟨gs, os + k, none⟩) (lt_of_cell HD.out.1)).trans HD.out.1
                  have cf := ((Mod.of_below (S := fun _ => False) b6).frozen (p := ⟨gs, os + k, none⟩) (lt_of_cell HD.out.1) id).trans HD.out.2
                  have k6 := (b6.cell (p := ⟨q, 1, none⟩) (lt_of_cell HQ2.out.2)).trans HQ2.out.2
                  have KT := Lib.hid (HK2.out.turn b6 r6 nv6 hkS (y : Int) HKD.out)
                  clear r6 nv6 b6 k0 k1
                  go_wp2_with fail
                  go_roundw
                  case rel => exact ⟨j + 1, putN M (t, (y : Int)), N2, _, by omega, by omega, by go_num, hN2, KT⟩
                  case measure => simp [intOf]; omega
        · have hjn : (j : Int) < (n : Int) := by omega
          have hj1 : ¬ (j : Int) < 40 := by omega
          go_wp2_with fail
          go_meet
          case rel => exact ⟨M, N, S, by rw [Hdn.out]; omega, HK⟩
      · have hjn : ¬ (j : Int) < (n : Int) := by omega
        go_wp2_with fail
        go_meet
        case rel => exact ⟨M, N, S, by rw [Hdn.out]; omega, HK⟩
  case rest =>
  obtain ⟨M, N, S, hNl, HK⟩ := hcut
  obtain ⟨A2, c2, hm2⟩ := HK.out.rm.shape
  subst hm2
  obtain ⟨A3, c3, hn2⟩ := HK.out.rn.shape
  subst hn2
  obtain ⟨A4, c4, hs2⟩ := HK.out.rs.shape
  subst hs2
  obtain ⟨dm, Hdm⟩ : ∃ dn, Hid (M.length = dn) := ⟨_, Lib.hid rfl⟩
  obtain ⟨dn, Hdn⟩ : ∃ dn, Hid (N.length = dn) := ⟨_, Lib.hid rfl⟩
  obtain ⟨ds, Hds⟩ : ∃ dn, Hid (S.length = dn) := ⟨_, Lib.hid rfl⟩
  have Hsd : Hid (ds = dn) := Lib.hid (by rw [← Hds.out, ← Hdn.out, HK.out.kp.len])
  have hds : ds ≤ 40 := by have := Hsd.out; rw [Hdn.out] at hNl; omega
  have hdm : dm ≤ 40 := by rw [← Hdm.out, HK.out.kp.cnt]; have := upL_le S; rw [Hds.out] at this; omega
  rw [Hdn.out] at hNl
  rw [Hdm.out, Hdn.out, Hds.out] at HK ⊢
  have HE : Hid (bytesW M = 0) := Lib.hid (by rw [bytesW, HK.out.kp.right.right]; rfl)
  obtain ⟨V, HV⟩ : ∃ z, Hid (bytesV M = z) := ⟨_, Lib.hid rfl⟩
  go_wp2_with fail
  refine (Bytes_any A2 dm c2 M wc (HK.out.rm.is encN_ok).1 (by omega)).mono ?_
  rw [HE.out, HV.out]
  rintro e w3 ⟨rfl, b3⟩
  have K3 := Lib.hid (HK.out.later b3)
  clear b3
  go_wp2_with fail
  go_loopw [15, 16] (fun mv kv wr => ∃ k mn : Nat, k ≤ dn ∧ kv = .int .i64 k ∧ mv = .int .i64 mn ∧ mn ≤ k ∧ Hid (mn = upL (S.take k)) ∧ Hid (Below w3.heap.size w3 wr)) (fun _ kv _ => dn - (intOf kv).toNat)
  case atStart => exact ⟨0, 0, Nat.zero_le _, rfl, rfl, Nat.le_refl _, Lib.hid rfl, Lib.hid (Below.refl _ _)⟩
  case round =>
    obtain ⟨k, mn, hk, rfl, rfl, hmn, HM, HB⟩ := hrel
    by_cases hlt : k < dn
    · have hki : (k : Int) < (dn : Int) := by omega
      have hks : (k : Int) < (ds : Int) := by have := Hsd.out; omega
      have hkss : k < ds := by have := Hsd.out; omega
      have hk0 : (0 : Int) ≤ (k : Int) := by omega
      obtain ⟨s3, Hs3⟩ : ∃ z, Hid (N[k]? = some z) := ⟨N[k]'(by have := Hdn.out; omega), Lib.hid (List.getElem?_eq_getElem _)⟩
      obtain ⟨x3, Hx3⟩ : ∃ z, Hid (S[k]? = some z) := ⟨S[k]'(by have := Hds.out; omega), Lib.hid (List.getElem?_eq_getElem _)⟩
      obtain ⟨gx, ox, hAx, cx⟩ := ((K3.out.rn.is encT_ok).1.below HB.out).txt Hs3.out
      subst hAx
      obtain ⟨gs, os, hAs, hgs, hcs⟩ := (K3.out.rs.is encI_ok).1.cells (by omega)
      subst hAs
      have d0 := hcs k x3 0 _ Hx3.out rfl
      rw [Nat.mul_one, Nat.add_zero] at d0
      have HF := Lib.hid (K3.out.kp.find Hs3.out Hx3.out)
      have HU := Lib.hid (upL_take Hx3.out)
      rw [← HM.out] at HU
      clear hcs
      go_wp2_with fail
      refine (Find_any A2 dm c2 M s3 wr ((K3.out.rm.is encN_ok).1.below HB.out) (by omega)).mono ?_
      rw [HF.out]
      by_cases h0 : 0 ≤ x3
      · rw [if_pos h0]
        rintro e w5 ⟨rfl, b5⟩
        have d5 := (b5.cell (p := ⟨gs, os + k, none⟩) (lt_of_cell ((HB.out.cell (p := ⟨gs, os + k, none⟩) (lt_of_cell d0)).trans d0))).trans ((HB.out.cell (p := ⟨gs, os + k, none⟩) (lt_of_cell d0)).trans d0)
        have B5 := Lib.hid (bnext HB.out b5)
        have HU2 : Hid (mn + 1 = upL (S.take (k + 1))) := Lib.hid (by rw [HU.out, if_pos h0])
        have hxx : (x3 == x3) = true := by simp
        clear b5 cx d0
        go_wp2_with fail
        go_roundw
        case rel => exact ⟨k + 1, mn + 1, by omega, by go_num, by go_num, by omega, HU2, B5⟩
        case measure => simp [intOf]; omega
      · rw [if_neg h0]
        rintro e w5 ⟨rfl, b5⟩
        have d5 := (b5.cell (p := ⟨gs, os + k, none⟩) (lt_of_cell ((HB.out.cell (p := ⟨gs, os + k, none⟩) (lt_of_cell d0)).trans d0))).trans ((HB.out.cell (p := ⟨gs, os + k, none⟩) (lt_of_cell d0)).trans d0)
        have B5 := Lib.hid (bnext HB.out b5)
        have HU2 : Hid (mn = upL (S.take (k + 1))) := Lib.hid (by rw [HU.out, if_neg h0]; rfl)
        clear b5 cx d0
        go_wp2_with fail
        go_roundw
        case rel => exact ⟨k + 1, mn, by omega, by go_num, rfl, by omega, HU2, B5⟩
        case measure => simp [intOf]; omega
    · obtain rfl : k = dn := by omega
      have hki : ¬ (k : Int) < (k : Int) := by omega
      have hme : ((dm : Int) == (mn : Int)) = true := by
        have h1 := HM.out
        rw [List.take_of_length_le (by rw [Hds.out, Hsd.out]; exact Nat.le_refl _)] at h1
        have h2 := HK.out.kp.cnt
        rw [Hdm.out] at h2
        simp
        omega
      have F : Hid (Below w.heap.size w wr) := Lib.hid (bnext K3.out.below HB.out)
      go_wp2_with fail
      go_ret
      exact ⟨ret_bool (by first | rfl | simpa using hme), F.out⟩
set_option maxRecDepth 100000 in
theorem lifted (os : Os) (started : os.Started) (H : Type) (enc : TypeId × Value → H) :
    ReturnsInHanded {} Tryd.checked os 6 .any (fun w args => (Rows.entryKeepsSpec.pre enc Tryd.prog Tryd.f6 [] false w args ∧ laidMetH Tryd.prog laidT w) ∧ sizedMet enc Tryd.prog Tryd.f6 (OpenSpec.ofChange Rows.entryKeepsSpec) false w args)
      (Rows.entryKeepsSpec.post enc Tryd.prog Tryd.f6 false true false false) := by
  refine lift15 (C := Tryd.checked) (X := fun w _ => laidMetH Tryd.prog laidT w) (fun _ _ _ hh h => h.of_heap hh) own started (by kernel_rfl) Tryd.func6
    (ChangeSpec.witness_shaped (enc := enc) (C := Tryd.checked) (os := os) (X := fun w _ => laidMetH Tryd.prog laidT w) false (World.laidAll Tryd.prog os laidT) #[.slice none 0 0] 8 (World.laidAll_os _ _ _) (World.shaped_of_ZipB (by kernel_rfl) (by kernel_rfl)) (by kernel_rfl) (by kernel_rfl) (by kernel_rfl) (door_met os _)) ?_
  intro W base args ds gs before hval0 hW _ _ _ hsh _
  have hval : ∀ (j : Nat) t v, Tryd.f6.params[j]? = some t → args[j]? = some v → Value.okWide Tryd.prog W .any base t v := hval0
  have hW' := hW
  obtain ⟨p, q, hA0, hV, rfl, hfz, hnd⟩ := hW
  have hA : DataW.TrodAll enc Tryd.prog W 0 (fun _ => true) true Tryd.f6.params.toList args.toList ds p := hA0
  rw [Tryd.params6] at hA hval
  obtain ⟨v0, vs0, d0, ds0, p0, q0, hargs, rfl, rfl, h0, r0⟩ := trodAll_cons hA
  obtain ⟨rfl, rfl, rfl⟩ := trodAll_nil r0
  obtain rfl : args = #[v0] := by cases args; simp_all
  obtain ⟨x0, len0, cap0, a0, rfl, w0, y0⟩ := opens_ents (hval 0 32 v0 rfl rfl) h0
  clear hA0 hval0
  refine (walk x0 len0 cap0 a0 W w0 y0 (mx_of_shape hsh)).mono fun e W' ⟨he, bel⟩ => ?_
  subst he
  exact ⟨_, rfl, law_post laidOut (by rw [Tryd.params6]; decide +kernel) rfl Tryd.underlying4 rfl hW' (fun _ => rfl) bel⟩
theorem over : Rows.entryKeepsRow.holds Tryd.pinned (OpenSpec.ofChange Rows.entryKeepsSpec) :=
  OpenClaim.holds_of_wide 6 Tryd.f6 rfl rfl rfl rfl rfl rfl rfl ⟨rfl, rfl, rfl, rfl, rfl⟩ rfl rfl rfl rfl rfl (by kernel_rfl) Tryd.func6 (by kernel_rfl)
    (of_decide_eq_true (by kernel_rfl)) (by unfold Func.isWrapper; first | (rw [if_pos (by decide +kernel)]; kernel_rfl) | (rw [if_neg (by decide +kernel)]; exact ⟨rfl, rfl⟩))
    (fun os started H enc _ => lifted os started H enc)
theorem proved : Rows.EntryKeepsCardSaid :=
  Claim7.holds_tied_plain_at .later [] [.data, .pinned] true Rows.entryKeepsCard.stood.harness false over (fun _ h => by cases h) (by kernel_rfl) (fun _ h => by cases h) entryKeeps_row_tie rfl ⟨rfl, rfl⟩ (by kernel_rfl) rfl
    (fun f fn hf hfn => by
      obtain rfl : f = 6 := Option.some.inj ((show Tryd.prog.funcNamed "lockgate/lockgatelaw15.EntryKeeps" = some 6 by kernel_rfl).symm.trans hf) |>.symm
      obtain rfl : fn = Tryd.f6 := (Option.some.inj (Tryd.func6.symm.trans hfn)).symm
      exact ⟨by kernel_rfl, fun j t ht => by
        rw [Tryd.params6] at ht
        have hm : t ∈ [32] := by simpa using Array.mem_of_getElem? ht
        have hall : ([32].all fun u => !Tryd.prog.wantsStandIn u) = true := by kernel_rfl
        exact (show Tryd.prog.wantsStandIn t = false by simpa using List.all_eq_true.1 hall t hm)⟩)
    (by kernel_rfl)
end Go.Proofs.YtnoidhfhnaemgaaDoor.entryKeeps
