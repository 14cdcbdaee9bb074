/- In whatever order names are put, the list is the same: EntryOrder. -/
import Derived.Test.YtnoidhfhnaemgaaDoorTied15
import Derived.Test.YtnoidhfhnaemgaaDoorSo15
import Derived.Test.YtnoidhfhnaemgaaDoorMixY
import Derived.Deep.CutBlock
import Derived.Deep.DeepCutAuto
namespace Go.Proofs.YtnoidhfhnaemgaaDoor.entryOrder
open Go.RowKit Go.ChangeShapes Go.WideShapes Go.ChangeAt
open Go.ChangeMaps (open_string shut_string)

structure Ms (M : List Ent) : Prop where
  ok : ∀ e ∈ M, OkN e
  one : M.Pairwise fun a b => a.1 ≠ b.1
theorem Ms.snoc {M : List Ent} {e : Ent} (h : Ms M) (he : OkN e) (hn : ∀ x ∈ M, x.1 ≠ e.1) : Ms (M ++ [e]) :=
  ⟨fun x hx => by
    rcases List.mem_append.1 hx with hx | hx
    · exact h.ok x hx
    · rw [List.mem_singleton] at hx; rw [hx]; exact he, List.pairwise_append.2 ⟨h.one, List.pairwise_singleton _ _, fun a ha b hb => by rw [List.mem_singleton] at hb; rw [hb]; exact hn a ha⟩⟩
theorem atN_out {l : List Ent} {s : List UInt8} (h : ¬ atN l s < l.length) : ∀ x ∈ l, x.1 ≠ s := fun x hx e => h (atN_yes hx e)
theorem sizeN_snoc (l : List Ent) (e : Ent) : sizeN (l ++ [e]) = sizeN l + e.1.length + 6 := by
  simp [sizeN]
  omega
theorem Ms.apart {M : List Ent} (h : Ms M) {i j : Nat} {x y : Ent} (hi : M[i]? = some x) (hj : M[j]? = some y) (hij : i ≠ j) : x.1 ≠ y.1 := by
  obtain ⟨h1, e1⟩ := List.getElem?_eq_some_iff.1 hi
  obtain ⟨h2, e2⟩ := List.getElem?_eq_some_iff.1 hj
  rcases Nat.lt_or_gt_of_ne hij with h3 | h3
  · have := List.pairwise_iff_getElem.1 h.one i j h1 h2 h3
    rwa [e1, e2] at this
  · have := List.pairwise_iff_getElem.1 h.one j i h2 h1 h3
    rw [e1, e2] at this
    exact fun e => this e.symm
theorem and_mask15 (x : Int) (m : Nat) (hm : m ≤ 9223372036854775807) : ∃ k : Nat, Hid (bits .and .i64 x (m : Int) = (k : Int)) ∧ k ≤ m := by
  have h2 : (BitVec.ofInt 64 x &&& BitVec.ofInt 64 (m : Int)).toNat ≤ m := by
    rw [BitVec.toNat_and]
    have e : (BitVec.ofInt 64 (m : Int)).toNat = m := by simp; omega
    rw [e]
    exact Nat.and_le_right
  refine ⟨(BitVec.ofInt 64 x &&& BitVec.ofInt 64 (m : Int)).toNat, Lib.hid ?_, h2⟩
  show IntKind.i64.wrap ((BitVec.ofInt 64 x &&& BitVec.ofInt 64 (m : Int)).toNat : Int) = _
  rw [IntWalk.i64_in _ (by omega)]
set_option maxRecDepth 100000 in
set_option maxHeartbeats 8000000 in
theorem walk (A : Option Addr) (n c : Nat) (a : List Ent) (w : World) (ha : IsG w 2 encN A n a) (hwa : ∀ e ∈ a, wfN e) (hm : Mx w) :
    Calls Tryd.prog 7 #[.slice A n c] w fun e w' => e = .returned (.bool true) ∧ Below w.heap.size w w' := by
  have Ha := Lib.hid ha
  have ha2 : ∀ e ∈ a, e.1.length ≤ 9223372036854775807 := fun e he => by have := (hwa e he).1; unfold maxLen at this; omega
  have hlen := ha.length
  clear ha hwa
  go_enter Tryd.func7, Tryd.ntmps7
  go_wp2_with fail
  refine (awk15_any w hm).mono ?_
  rintro e w1 ⟨rfl, b1⟩
  have B1 := Lib.hid b1
  clear b1 hm
  go_upto_block 0 with (fail)
  go_cut [6, 7] (fun m s wx => ∃ (M : List Ent) (Am : Option Addr) (mn cm Sz : Nat), m = .slice Am mn cm ∧ s = .int .i64 Sz ∧ mn ≤ 20 ∧ Sz ≤ 2000 ∧ Hid (Ms M ∧ IsG wx 2 encN Am mn M ∧ Sz = sizeN M ∧ Below w.heap.size w wx))
  case first =>
    go_wp2_with fail
    go_loopw [6, 7, 8] (fun m s i wr => ∃ (j : Nat) (M : List Ent) (Sz : Nat), j ≤ n ∧ j ≤ 20 ∧ i = .int .i64 j ∧ s = .int .i64 Sz ∧ Sz ≤ 70 * j ∧ M.length ≤ j ∧ Hid (Ms M ∧ RG wr 2 encN m M ∧ (∀ g, blk m = some g → w.heap.size ≤ g) ∧ Sz = sizeN M ∧ Below w.heap.size w wr)) (fun _ _ i _ => 20 - (intOf i).toNat)
    case atStart => exact ⟨0, [], 0, Nat.zero_le _, Nat.zero_le _, rfl, rfl, by simp, by simp, Lib.hid ⟨⟨fun e he => (by cases he), List.Pairwise.nil⟩, RG.nil _ _ _, (fun g e => by cases e), rfl, B1.out⟩⟩
    case round =>
      obtain ⟨j, M, Sz, hj, hj20, rfl, rfl, hSz, hMl, HJ⟩ := hrel
      obtain ⟨A2, c2, rfl⟩ := HJ.out.2.1.shape
      obtain ⟨dn, Hdn⟩ : ∃ dn, Hid (M.length = dn) := ⟨_, Lib.hid rfl⟩
      rw [Hdn.out] at HJ hMl ⊢
      have HI := Lib.hid (HJ.out.2.1.is encN_ok).1
      by_cases hlt : j < n
      · by_cases h20 : j < 20
        · have hjn : (j : Int) < (n : Int) := by omega
          have hj1 : (j : Int) < 20 := by omega
          have hj0 : (0 : Int) ≤ (j : Int) := by omega
          obtain ⟨⟨s, x⟩, Hx⟩ : ∃ z, Hid (a[j]? = some z) := ⟨a[j]'(by omega), Lib.hid (List.getElem?_eq_getElem _)⟩
          obtain ⟨g, off, hAe, hgl, e0, e1⟩ := (Ha.out.below HJ.out.2.2.2.2).ent Hx.out
          subst hAe
          have hxl := ha2 _ (List.mem_of_getElem? Hx.out)
          have q0 : ∀ y : In (Abv wr), y.u.cell? ⟨g, off + j * 2, none⟩ = some (.string (str s)) := fun y => (y.is.cell (p := ⟨g, off + j * 2, none⟩) hgl).trans e0
          have q1 : ∀ y : In (Abv wr), y.u.cell? ⟨g, off + j * 2 + 1, none⟩ = some (.int .i64 x) := fun y => (y.is.cell (p := ⟨g, off + j * 2 + 1, none⟩) hgl).trans e1
          obtain ⟨t, Ht⟩ : ∃ t, Hid (s.take 60 = t) := ⟨_, Lib.hid rfl⟩
          have htl : t.length ≤ 60 := by rw [← Ht.out, List.length_take]; omega
          obtain ⟨y, Hy, hy⟩ := and_mask15 x 65535 (by decide)
          have hyb : bits .and .i64 x 65535 = (y : Int) := Hy.out
          go_upto_region 9 with (fail)
          go_cut [9] (fun s9 wx => ∃ q : Nat, s9 = .pointer (some ⟨q, 0, none⟩) ∧ Hid (wx.cell? ⟨q, 0, none⟩ = some (.string (str t)) ∧ wx.cell? ⟨q, 1, none⟩ = some (.int .i64 (y : Int)) ∧ Below wr.heap.size wr wx ∧ wr.heap.size ≤ q))
          case first =>
            refine wp_region_mixY (by kernel_rfl) (Cls (Abv wr)) 13 [(0, 0), (1, 0), (2, 0), (3, 0), (4, 0), (6, 0), (7, 0), (8, 0), (9, 0), (10, 0), (11, 0), (5, 1), (12, 0)] [(14, 2)] (by kernel_rfl) (cls (Below.refl _ _).drew) ?_
            repeat (refine mixY0 rfl (fun K hK => ?_); go_simp; (try rw [hyb]); refine hK _ ?_; clear hK K)
            refine mixY1 rfl rfl (fun K hK => ?_) (fun K hK => ?_)
            · go_simp
              refine hK _ _ (cls (balloc (Below.refl _ _) _).drew) ?_
              clear hK K
              refine mix1 rfl (fun K hK => ?_)
              go_simp
              refine (short15_any s 60 (by decide) hxl _).mono ?_
              rw [Ht.out]
              rintro e w2 ⟨rfl, rfl⟩
              refine ⟨_, rfl, hK _ _ (cls (balloc (Below.refl _ _) _).drew) ?_⟩
              clear hK K
              repeat (refine mix0 rfl (fun K hK => ?_); go_simp; refine hK _ ?_; clear hK K)
              refine mix2 rfl (fun K hK => ?_)
              go_simp
              refine hK _ _ ?_
              clear hK K
              refine mixEnd ?_
              go_wp2_with fail
              go_meet
              case rel => exact ⟨wr.heap.size, rfl, Lib.hid ⟨by go_simp, by go_simp, (balloc (Below.refl _ _) _).drew, Nat.le_refl _⟩⟩
            · go_simp
              refine (short15_any s 60 (by decide) hxl _).mono ?_
              rw [Ht.out]
              rintro e w2 ⟨rfl, rfl⟩
              refine ⟨_, rfl, hK _ _ (cls (Below.refl _ _).drew) ?_⟩
              clear hK K
              repeat (refine mixY0 rfl (fun K hK => ?_); go_simp; refine hK _ ?_; clear hK K)
              refine mixYe rfl (fun K hK => ?_)
              go_simp
              refine hK _ _ (cls (balloc (Below.refl _ _) _).drew) ?_
              clear hK K
              repeat (refine mix0 rfl (fun K hK => ?_); go_simp; refine hK _ ?_; clear hK K)
              refine mix2 rfl (fun K hK => ?_)
              go_simp
              refine hK _ _ ?_
              clear hK K
              refine mixEnd ?_
              go_wp2_with fail
              go_meet
              case rel => exact ⟨wr.heap.size, rfl, Lib.hid ⟨by go_simp, by go_simp, (balloc (Below.refl _ _) _).drew, Nat.le_refl _⟩⟩
          case rest =>
          obtain ⟨q, rfl, HQ⟩ := hcut
          have B9 := Lib.hid HQ.out.2.2.1
          have k0 := HQ.out.1
          obtain ⟨fx, Hfx⟩ : ∃ z, Hid ((findN M t).1 = z) := ⟨_, Lib.hid rfl⟩
          obtain ⟨fb, Hfb⟩ : ∃ z, Hid ((findN M t).2 = z) := ⟨_, Lib.hid rfl⟩
          obtain ⟨nb, Hnb⟩ : ∃ z, Hid (nameB t = z) := ⟨_, Lib.hid rfl⟩
          clear q0 q1 e0 e1 hyb
          go_wp2_with fail
          refine (Find_any A2 dn c2 M t wc (HI.out.below B9.out) (by omega)).mono ?_
          rw [Hfx.out, Hfb.out]
          rintro e w4 ⟨rfl, b4⟩
          have T4 : Hid (w4.cell? ⟨q, 0, none⟩ = some (.string (str t)) ∧ w4.cell? ⟨q, 1, none⟩ = some (.int .i64 (y : Int)) ∧ Below wr.heap.size wr w4) := Lib.hid ⟨(b4.cell (p := ⟨q, 0, none⟩) (lt_of_cell HQ.out.1)).trans HQ.out.1, (b4.cell (p := ⟨q, 1, none⟩) (lt_of_cell HQ.out.2.1)).trans HQ.out.2.1, bnext B9.out b4⟩
          clear b4 k0
          have k0 := T4.out.1
          go_wp2_with fail
          refine (Name_any t w4).mono ?_
          rw [Hnb.out]
          rintro e w5 ⟨rfl, b5⟩
          have T5 : Hid (w5.cell? ⟨q, 0, none⟩ = some (.string (str t)) ∧ w5.cell? ⟨q, 1, none⟩ = some (.int .i64 (y : Int)) ∧ Below wr.heap.size wr w5) := Lib.hid ⟨(b5.cell (p := ⟨q, 0, none⟩) (lt_of_cell T4.out.1)).trans T4.out.1, (b5.cell (p := ⟨q, 1, none⟩) (lt_of_cell T4.out.2.1)).trans T4.out.2.1, bnext T4.out.2.2 b5⟩
          clear b5 k0
          have Hsame : Hid (Ms M ∧ RG w5 2 encN (.slice A2 dn c2) M ∧ (∀ g, blk (.slice A2 dn c2) = some g → w.heap.size ≤ g) ∧ Sz = sizeN M ∧ Below w.heap.size w w5) := Lib.hid ⟨HJ.out.1, HJ.out.2.1.below T5.out.2.2, HJ.out.2.2.1, HJ.out.2.2.2.1, bnext HJ.out.2.2.2.2 T5.out.2.2⟩
          have hMd : M.length ≤ j + 1 := by rw [Hdn.out]; omega
          cases nb with
          | false =>
            go_wp2_with fail
            go_roundw
            case rel => exact ⟨j + 1, M, Sz, by omega, by omega, by go_num, rfl, by omega, hMd, Hsame⟩
            case measure => simp [intOf]; omega
          | true =>
            cases fb with
            | true =>
              go_wp2_with fail
              go_roundw
              case rel => exact ⟨j + 1, M, Sz, by omega, by omega, by go_num, rfl, by omega, hMd, Hsame⟩
              case measure => simp [intOf]; omega
            | false =>
              have HNo : Hid (∀ x ∈ M, x.1 ≠ t) := Lib.hid (atN_out (fun h => by
                have := Hfb.out
                rw [findN, if_pos h] at this
                cases this))
              have HMs : Hid (Ms (M ++ [(t, (y : Int))])) := Lib.hid (HJ.out.1.snoc ⟨Hnb.out, by simp only; omega, by simp only; omega⟩ HNo.out)
              have HSz : Hid (sizeN (M ++ [(t, (y : Int))]) = Sz + t.length + 6) := Lib.hid (by rw [sizeN_snoc, HJ.out.2.2.2.1])
              have htn := (name_some Hnb.out).2
              obtain ⟨k0, k1, _⟩ := T5.out
              obtain ⟨W, HW⟩ : ∃ W, Hid (w5.alloc (.cells #[.string (str t), .int .i64 (y : Int)] 44) = W) := ⟨_, Lib.hid rfl⟩
              obtain ⟨p, Hp⟩ : ∃ p, Hid (w5.heap.size = p) := ⟨_, Lib.hid rfl⟩
              have hbW : Below w5.heap.size w5 W := by rw [← HW.out]; exact balloc (Below.refl _ _) _
              have hI : IsG W 2 encN (some ⟨p, 0, none⟩) 1 [(t, (y : Int))] := by rw [← HW.out, ← Hp.out]; exact n_one w5 (t, (y : Int)) _
              obtain ⟨v8, w8, hr8, r8, a8⟩ := appG nInf encN_ok (Hsame.out.2.1.below hbW) (c := 1) hI (by rw [Hdn.out]; omega) (by decide) 32
              have HR8 := Lib.hid hr8
              have hql : q < w5.heap.size := lt_of_cell k0
              have hqn : ¬ blk (.slice A2 dn c2) = some q := fun e => by
                have h1 := HJ.out.2.1.lt e
                have h2 := HQ.out.1
                have h3 : wr.heap.size ≤ q := HQ.out.2.2.2
                omega
              have F8 : Hid (RG w8 2 encN v8 (M ++ [(t, (y : Int))]) ∧ (∀ g, blk v8 = some g → w.heap.size ≤ g) ∧ Below w.heap.size w w8 ∧ w8.cell? ⟨q, 0, none⟩ = some (.string (str t))) := Lib.hid (by
                have bU := bnext Hsame.out.2.2.2.2 hbW
                refine ⟨r8, fun g e => ?_, a8.mod.below bU bU.size (fun i e => Hsame.out.2.2.1 i e), (a8.mod.cell (p := ⟨q, 0, none⟩) (Nat.lt_of_lt_of_le hql hbW.size) hqn).trans ((hbW.cell (p := ⟨q, 0, none⟩) hql).trans T5.out.1)⟩
                rcases a8.blk with e2 | ⟨g2, e2, h2⟩
                · exact Hsame.out.2.2.1 g (e2 ▸ e)
                · rw [e2] at e
                  obtain rfl := Option.some.inj e
                  have := bU.size
                  omega)
              have hlen8 : Hid ((M ++ [(t, (y : Int))]).length ≤ j + 1) := Lib.hid (by rw [List.length_append, Hdn.out]; simp; omega)
              clear hbW hI hr8 r8 a8 hqn hql
              obtain ⟨A9, n9, c9, rfl⟩ : ∃ A9 n9 c9, v8 = .slice A9 n9 c9 := by
                obtain ⟨A9, c9, e⟩ := F8.out.1.shape
                exact ⟨A9, _, c9, e⟩
              have k8 := F8.out.2.2.2
              go_wp2_with (first | (at_builtin; rw [HW.out, Hp.out]; refine wpList_append_run rfl (.tmp 52) (.tmp 54) 32 rfl (by exact HR8.out) ?_) | fail)
              go_roundw
              case rel => exact ⟨j + 1, _, Sz + t.length + 6, by omega, by omega, by go_num, by go_num, by omega, hlen8.out, Lib.hid ⟨HMs.out, F8.out.1, F8.out.2.1, HSz.out.symm, F8.out.2.2.1⟩⟩
              case measure => simp [intOf]; omega
        · have hjn : (j : Int) < (n : Int) := by omega
          have hj1 : ¬ (j : Int) < 20 := by omega
          go_wp2_with fail
          go_meet
          case rel => exact ⟨M, A2, dn, c2, Sz, rfl, rfl, by omega, by omega, Lib.hid ⟨HJ.out.1, HI.out, HJ.out.2.2.2.1, HJ.out.2.2.2.2⟩⟩
      · have hjn : ¬ (j : Int) < (n : Int) := by omega
        go_wp2_with fail
        go_meet
        case rel => exact ⟨M, A2, dn, c2, Sz, rfl, rfl, by omega, by omega, Lib.hid ⟨HJ.out.1, HI.out, HJ.out.2.2.2.1, HJ.out.2.2.2.2⟩⟩
  case rest =>
  obtain ⟨M, Am, mn, cm, Sz, rfl, rfl, hmn, hSz, HM⟩ := hcut
  have hMl : M.length = mn := HM.out.2.1.length
  go_wp2_with fail
  go_loopw [4, 5, 12] (fun x y i wr => ∃ (j : Nat) (La Lb : List Ent), j ≤ mn ∧ i = .int .i64 j ∧ Hid (RightP La ∧ La.Perm (M.take j) ∧ RG wr 2 encN x La) ∧ Hid (RightP Lb ∧ Lb.Perm (M.drop (mn - j)) ∧ RG wr 2 encN y Lb) ∧ Hid (Below wc.heap.size wc wr)) (fun _ _ i _ => mn - (intOf i).toNat)
  case atStart => exact ⟨0, [], [], Nat.zero_le _, rfl, Lib.hid ⟨RightP.nil, List.Perm.refl _, RG.nil _ _ _⟩, Lib.hid ⟨RightP.nil, by rw [List.drop_of_length_le (by omega)], RG.nil _ _ _⟩, Lib.hid (Below.refl _ _)⟩
  case round =>
    obtain ⟨j, La, Lb, hj, rfl, HA, HB, HW⟩ := hrel
    obtain ⟨A4, c4, rfl⟩ := HA.out.2.2.shape
    obtain ⟨A5, c5, rfl⟩ := HB.out.2.2.shape
    obtain ⟨na, Hna⟩ : ∃ x, Hid (La.length = x) := ⟨_, Lib.hid rfl⟩
    obtain ⟨nb, Hnb⟩ : ∃ x, Hid (Lb.length = x) := ⟨_, Lib.hid rfl⟩
    have Hna2 : Hid (na = j) := Lib.hid (by rw [← Hna.out, HA.out.2.1.length_eq, List.length_take]; omega)
    have Hnb2 : Hid (nb = j) := Lib.hid (by rw [← Hnb.out, HB.out.2.1.length_eq, List.length_drop]; omega)
    have hna : na ≤ 20 := by have := Hna2.out; omega
    have hnb : nb ≤ 20 := by have := Hnb2.out; omega
    rw [Hna.out] at HA ⊢
    rw [Hnb.out] at HB ⊢
    by_cases hlt : j < mn
    · have hji : (j : Int) < (mn : Int) := by omega
      have hj0 : (0 : Int) ≤ (j : Int) := by omega
      obtain ⟨⟨s, x⟩, Hx⟩ : ∃ z, Hid (M[j]? = some z) := ⟨M[j]'(by omega), Lib.hid (List.getElem?_eq_getElem _)⟩
      obtain ⟨k, Hk⟩ : ∃ k, Hid (k + 1 = mn - j ∧ k = mn - (j + 1)) := ⟨mn - 1 - j, Lib.hid ⟨by omega, by omega⟩⟩
      have hkI : (mn : Int) - 1 - (j : Int) = (k : Int) := by have := Hk.out; omega
      have hkn : (k : Int) < (mn : Int) := by have := Hk.out; omega
      have hknn : k < mn := by have := Hk.out; omega
      have hk0 : (0 : Int) ≤ (k : Int) := by omega
      obtain ⟨⟨t, y⟩, Hy⟩ : ∃ z, Hid (M[k]? = some z) := ⟨M[k]'(by omega), Lib.hid (List.getElem?_eq_getElem _)⟩
      have PA : Hid (RightP (putN La (s, x)) ∧ (putN La (s, x)).Perm (M.take (j + 1))) := Lib.hid (by
        obtain ⟨p1, p2⟩ := putN_new HA.out.1 (HM.out.1.ok _ (List.mem_of_getElem? Hx.out)) (fun z hz => by
          obtain ⟨i, hi, rfl⟩ := List.mem_take_iff_getElem.1 (HA.out.2.1.mem_iff.1 hz)
          exact HM.out.1.apart (List.getElem?_eq_getElem (by omega)) Hx.out (by omega))
        refine ⟨p1, p2.trans ?_⟩
        rw [take_some Hx.out]
        exact ((HA.out.2.1.cons _).trans (List.perm_append_singleton _ _).symm))
      have PB : Hid (RightP (putN Lb (t, y)) ∧ (putN Lb (t, y)).Perm (M.drop (mn - (j + 1)))) := Lib.hid (by
        obtain ⟨p1, p2⟩ := putN_new HB.out.1 (HM.out.1.ok _ (List.mem_of_getElem? Hy.out)) (fun z hz => by
          obtain ⟨i, hi, rfl⟩ := List.mem_drop_iff_getElem.1 (HB.out.2.1.mem_iff.1 hz)
          exact HM.out.1.apart (List.getElem?_eq_getElem (by omega)) Hy.out (by have := Hk.out; omega))
        refine ⟨p1, p2.trans ?_⟩
        have e := List.drop_eq_getElem_cons (show k < M.length by omega)
        rw [(List.getElem?_eq_some_iff.1 Hy.out).2, Hk.out.1] at e
        rw [← Hk.out.2, e]
        exact HB.out.2.1.cons _)
      obtain ⟨g, off, hAe, hgl, e0, e1⟩ := (HM.out.2.1.below HW.out).ent Hx.out
      subst hAe
      go_wp2_with fail
      refine (Put_any A4 na c4 La (s, x) wr HA.out.2.2 (by omega)).mono ?_
      rintro e w3 ⟨v3, rfl, g3, _, b3⟩
      obtain ⟨A6, c6, rfl⟩ := g3.shape
      have T3 : Hid (RG w3 2 encN (.slice A6 (putN La (s, x)).length c6) (putN La (s, x)) ∧ RG w3 2 encN (.slice A5 nb c5) Lb ∧ Below wc.heap.size wc w3) := Lib.hid ⟨g3, HB.out.2.2.below b3, bnext HW.out b3⟩
      clear g3 b3 e0 e1
      obtain ⟨n6, Hn6⟩ : ∃ z, Hid ((putN La (s, x)).length = z) := ⟨_, Lib.hid rfl⟩
      rw [Hn6.out] at T3 ⊢
      obtain ⟨_, _, hAe, _, f0, f1⟩ := (HM.out.2.1.below T3.out.2.2).ent Hy.out
      injection hAe with hAe
      injection hAe with q1 q2 q3
      subst q1 q2
      go_wp2_with fail
      refine (Put_any A5 nb c5 Lb (t, y) w3 T3.out.2.1 (by omega)).mono ?_
      rintro e w4 ⟨v4, rfl, g4, _, b4⟩
      have T4 : Hid (RG w4 2 encN (.slice A6 n6 c6) (putN La (s, x)) ∧ RG w4 2 encN v4 (putN Lb (t, y)) ∧ Below wc.heap.size wc w4) := Lib.hid ⟨T3.out.1.below b4, g4, bnext T3.out.2.2 b4⟩
      clear g4 b4 f0 f1
      go_wp2_with fail
      go_roundw
      case rel => exact ⟨j + 1, putN La (s, x), putN Lb (t, y), by omega, by go_num, Lib.hid ⟨PA.out.1, PA.out.2, T4.out.1⟩, Lib.hid ⟨PB.out.1, PB.out.2, T4.out.2.1⟩, Lib.hid T4.out.2.2⟩
      case measure => simp [intOf]; omega
    · obtain rfl : j = mn := by omega
      have hji : ¬ (j : Int) < (j : Int) := by omega
      have PM : Hid (La.Perm M ∧ La = Lb) := Lib.hid (by
        have p1 := HA.out.2.1
        have p2 := HB.out.2.1
        rw [List.take_of_length_le (by omega)] at p1
        rw [Nat.sub_self, List.drop_zero] at p2
        exact ⟨p1, same_order HA.out.1 HB.out.1 (p1.trans p2.symm)⟩)
      have HE := PM.out.2
      subst HE
      have HI := Lib.hid (HA.out.2.2.is encN_ok).1
      have HI2 := Lib.hid (HB.out.2.2.is encN_ok).1
      have HSz : Hid (sizeN La = Sz) := Lib.hid (by rw [size_perm PM.out.1, HM.out.2.2.1])
      have HLl : Hid (∀ e ∈ La, e.1.length ≤ 1000) := Lib.hid (fun e he => Nat.le_trans (name_some (HA.out.1.ok e he).1).2 (by decide))
      have hszz : ((Sz : Int) == (Sz : Int)) = true := by simp
      have hnn : ((na : Int) == (j : Int)) = true := by simp [Hna2.out]
      go_wp2_with fail
      refine (SameE_any A4 A5 na c4 nb c5 La La wr HI.out HI2.out).mono ?_
      rw [decide_eq_true rfl]
      rintro e w5 ⟨rfl, b5⟩
      have B5 := Lib.hid b5
      clear b5
      go_wp2_with fail
      refine (Size_any La A4 na c4 w5 (HI.out.below B5.out) HLl.out (by omega)).mono ?_
      rw [HSz.out]
      rintro e w6 ⟨rfl, b6⟩
      have B6 := Lib.hid (bnext HM.out.2.2.2 (bnext HW.out (bnext B5.out b6)))
      clear b6
      go_wp2_with fail
      go_ret
      exact ⟨ret_bool (by first | rfl | simp [Hna2.out]), B6.out⟩
set_option maxRecDepth 100000 in
theorem lifted (os : Os) (started : os.Started) (H : Type) (enc : TypeId × Value → H) :
    ReturnsInHanded {} Tryd.checked os 7 .any (fun w args => (Rows.entryOrderSpec.pre enc Tryd.prog Tryd.f7 [] false w args ∧ laidMetH Tryd.prog laidT w) ∧ sizedMet enc Tryd.prog Tryd.f7 (OpenSpec.ofChange Rows.entryOrderSpec) false w args)
      (Rows.entryOrderSpec.post enc Tryd.prog Tryd.f7 false true false false) := by
  refine lift15 (C := Tryd.checked) (X := fun w _ => laidMetH Tryd.prog laidT w) (fun _ _ _ hh h => h.of_heap hh) own started (by kernel_rfl) Tryd.func7
    (ChangeSpec.witness_shaped (enc := enc) (C := Tryd.checked) (os := os) (X := fun w _ => laidMetH Tryd.prog laidT w) false (World.laidAll Tryd.prog os laidT) #[.slice none 0 0] 8 (World.laidAll_os _ _ _) (World.shaped_of_ZipB (by kernel_rfl) (by kernel_rfl)) (by kernel_rfl) (by kernel_rfl) (by kernel_rfl) (door_met os _)) ?_
  intro W base args ds gs before hval0 hW _ _ _ hsh _
  have hval : ∀ (j : Nat) t v, Tryd.f7.params[j]? = some t → args[j]? = some v → Value.okWide Tryd.prog W .any base t v := hval0
  have hW' := hW
  obtain ⟨p, q, hA0, hV, rfl, hfz, hnd⟩ := hW
  have hA : DataW.TrodAll enc Tryd.prog W 0 (fun _ => true) true Tryd.f7.params.toList args.toList ds p := hA0
  rw [Tryd.params7] at hA hval
  obtain ⟨v0, vs0, d0, ds0, p0, q0, hargs, rfl, rfl, h0, r0⟩ := trodAll_cons hA
  obtain ⟨rfl, rfl, rfl⟩ := trodAll_nil r0
  obtain rfl : args = #[v0] := by cases args; simp_all
  obtain ⟨x0, len0, cap0, a0, rfl, w0, y0⟩ := opens_ents (hval 0 32 v0 rfl rfl) h0
  clear hA0 hval0
  refine (walk x0 len0 cap0 a0 W w0 y0 (mx_of_shape hsh)).mono fun e W' ⟨he, bel⟩ => ?_
  subst he
  exact ⟨_, rfl, law_post laidOut (by rw [Tryd.params7]; decide +kernel) rfl Tryd.underlying4 rfl hW' (fun _ => rfl) bel⟩
theorem over : Rows.entryOrderRow.holds Tryd.pinned (OpenSpec.ofChange Rows.entryOrderSpec) :=
  OpenClaim.holds_of_wide 7 Tryd.f7 rfl rfl rfl rfl rfl rfl rfl ⟨rfl, rfl, rfl, rfl, rfl⟩ rfl rfl rfl rfl rfl (by kernel_rfl) Tryd.func7 (by kernel_rfl)
    (of_decide_eq_true (by kernel_rfl)) (by unfold Func.isWrapper; first | (rw [if_pos (by decide +kernel)]; kernel_rfl) | (rw [if_neg (by decide +kernel)]; exact ⟨rfl, rfl⟩))
    (fun os started H enc _ => lifted os started H enc)
theorem proved : Rows.EntryOrderCardSaid :=
  Claim7.holds_tied_plain_at .later [] [.data, .pinned] true Rows.entryOrderCard.stood.harness false over (fun _ h => by cases h) (by kernel_rfl) (fun _ h => by cases h) entryOrder_row_tie rfl ⟨rfl, rfl⟩ (by kernel_rfl) rfl
    (fun f fn hf hfn => by
      obtain rfl : f = 7 := Option.some.inj ((show Tryd.prog.funcNamed "lockgate/lockgatelaw15.EntryOrder" = some 7 by kernel_rfl).symm.trans hf) |>.symm
      obtain rfl : fn = Tryd.f7 := (Option.some.inj (Tryd.func7.symm.trans hfn)).symm
      exact ⟨by kernel_rfl, fun j t ht => by
        rw [Tryd.params7] at ht
        have hm : t ∈ [32] := by simpa using Array.mem_of_getElem? ht
        have hall : ([32].all fun u => !Tryd.prog.wantsStandIn u) = true := by kernel_rfl
        exact (show Tryd.prog.wantsStandIn t = false by simpa using List.all_eq_true.1 hall t hm)⟩)
    (by kernel_rfl)
end Go.Proofs.YtnoidhfhnaemgaaDoor.entryOrder
