/- Names that are put together as a path are split again: EntryPaths. -/
import Derived.Test.YtnoidhfhnaemgaaDoorTied15
import Derived.Test.YtnoidhfhnaemgaaDoorPp15
import Derived.Deep.CutBlock
import Derived.Deep.DeepCutAuto
namespace Go.Proofs.YtnoidhfhnaemgaaDoor.entryPaths
open Go.RowKit Go.ChangeShapes Go.WideShapes Go.ChangeAt
open Go.ChangeMaps (open_string shut_string)

set_option maxRecDepth 100000 in
set_option maxHeartbeats 8000000 in
theorem walk (A : Option Addr) (n c : Nat) (ss : List (List UInt8)) (w : World) (h0 : IsStrs w A n ss) (hm : Mx w) :
    Calls Tryd.prog 4 #[.slice A n c] w fun e w' => e = .returned (.bool true) ∧ Below w.heap.size w w' := by
  have HM := Lib.hid hm
  have HG := Lib.hid (isG15_of h0).1
  have HL := Lib.hid (isG15_of h0).2
  have hlen := (isG15_of h0).1.length
  obtain ⟨T, HT⟩ : ∃ T, Hid (ss.map (·.take 40) = T) := ⟨_, Lib.hid rfl⟩
  have HTl : Hid (T.length = n ∧ ∀ s ∈ T, s.length ≤ 40) := Lib.hid (by
    rw [← HT.out]
    refine ⟨by simp [hlen], fun s hs => ?_⟩
    obtain ⟨x, _, rfl⟩ := List.mem_map.1 hs
    rw [List.length_take]; omega)
  have hsl : (⟨#[47]⟩ : ByteArray) = str [47] := rfl
  clear h0
  go_enter Tryd.func4, Tryd.ntmps4
  go_wp2_with fail
  refine (awk15_any w hm).mono ?_
  rintro e w1 ⟨rfl, b1⟩
  have B1 := Lib.hid b1
  clear b1 hm
  go_upto_block 0 with (fail)
  go_cut [4, 5, 6] (fun p m a wx => ∃ (P : List UInt8) (Am : Option Addr) (mn cm : Nat) (D : List (List UInt8)) (al : Bool), p = .string (str P) ∧ m = .slice Am mn cm ∧ a = .bool al ∧ mn ≤ 10 ∧ Hid (P = joinP D ∧ al = D.all nameB ∧ D.length = mn ∧ (∀ s ∈ D, s.length ≤ 40) ∧ IsG wx 1 encT Am mn D ∧ Below w.heap.size w wx))
  case first =>
    go_wp2_with fail
    go_loopw [4, 5, 6, 7] (fun p m a i wr => ∃ (j : Nat) (P : List UInt8) (al : Bool), j ≤ n ∧ j ≤ 10 ∧ i = .int .i64 j ∧ p = .string (str P) ∧ a = .bool al ∧ P.length ≤ 41 * j ∧ Hid (P = joinP (T.take j) ∧ al = (T.take j).all nameB ∧ RG wr 1 encT m (T.take j) ∧ (∀ g, blk m = some g → w.heap.size ≤ g) ∧ Below w.heap.size w wr)) (fun _ _ _ i _ => 10 - (intOf i).toNat)
    case atStart => exact ⟨0, [], true, Nat.zero_le _, Nat.zero_le _, rfl, rfl, rfl, by simp, Lib.hid ⟨rfl, rfl, RG.nil _ _ _, (fun g e => by cases e), B1.out⟩⟩
    case round =>
      obtain ⟨j, P, al, hj, hj10, rfl, rfl, rfl, hPl, HJ⟩ := hrel
      obtain ⟨A2, c2, rfl⟩ := HJ.out.2.2.1.shape
      obtain ⟨dn, Hdn⟩ : ∃ x, Hid ((T.take j).length = x) := ⟨_, Lib.hid rfl⟩
      have hdn : dn ≤ 10 := by rw [← Hdn.out, List.length_take]; omega
      rw [Hdn.out] at HJ ⊢
      have fin : Hid (P = joinP (T.take j) ∧ al = (T.take j).all nameB ∧ (T.take j).length = dn ∧ (∀ s ∈ T.take j, s.length ≤ 40) ∧ IsG wr 1 encT A2 dn (T.take j) ∧ Below w.heap.size w wr) := Lib.hid ⟨HJ.out.1, HJ.out.2.1, Hdn.out, fun s hs => HTl.out.2 s (List.mem_of_mem_take hs), (HJ.out.2.2.1.is encT_ok).1, HJ.out.2.2.2.2⟩
      by_cases hlt : j < n
      · by_cases h10 : j < 10
        · have hjn : (j : Int) < (n : Int) := by omega
          have hj1 : (j : Int) < 10 := by omega
          obtain ⟨x, Hx⟩ : ∃ x, Hid (ss[j]? = some x) := ⟨ss[j]'(by omega), Lib.hid (List.getElem?_eq_getElem _)⟩
          obtain ⟨g, off, rfl, c0⟩ := (HG.out.below HJ.out.2.2.2.2).txt Hx.out
          have hxl := HL.out x (List.mem_of_getElem? Hx.out)
          obtain ⟨s, Hs⟩ : ∃ s, Hid (x.take 40 = s) := ⟨_, Lib.hid rfl⟩
          have hsl2 : s.length ≤ 40 := by rw [← Hs.out, List.length_take]; omega
          have HTx : Hid (T[j]? = some s) := Lib.hid (by rw [← HT.out, List.getElem?_map, Hx.out, ← Hs.out]; rfl)
          obtain ⟨nb, Hnb⟩ : ∃ x, Hid (nameB s = x) := ⟨_, Lib.hid rfl⟩
          have HP2 : Hid ((P ++ [47]) ++ s = joinP (T.take (j + 1))) := Lib.hid (by rw [join_step HTx.out, HJ.out.1])
          have HA2 : Hid ((al && nb) = (T.take (j + 1)).all nameB) := Lib.hid (by rw [take_some HTx.out, List.all_append, HJ.out.2.1, ← Hnb.out]; simp)
          have hq1 : ¬ 9223372036854775807 < P.length + 1 := by omega
          have hq2 : ¬ 9223372036854775807 < P.length + 1 + s.length := by omega
          have hq3 : ¬ 9223372036854775807 < (P ++ [47]).length + s.length := by rw [List.length_append]; simp; omega
          have HPl : Hid (((P ++ [47]) ++ s).length ≤ 41 * (j + 1)) := Lib.hid (by rw [List.length_append, List.length_append]; simp; omega)
          clear fin
          go_wp2_with fail
          refine (short15_any x 40 (by decide) hxl wr).mono ?_
          rintro e w2 ⟨rfl, rfl⟩
          rw [Hs.out]
          obtain ⟨W, HW⟩ : ∃ W, Hid (wr.alloc (.cells #[.string (str s)] 9) = W) := ⟨_, Lib.hid rfl⟩
          obtain ⟨p, Hp⟩ : ∃ p, Hid (wr.heap.size = p) := ⟨_, Lib.hid rfl⟩
          have hbW : Below wr.heap.size wr W := by rw [← HW.out]; exact balloc (Below.refl _ _) _
          have hI : IsG W 1 encT (some ⟨p, 0, none⟩) 1 [s] := by rw [← HW.out, ← Hp.out]; exact t_one wr s _
          obtain ⟨v8, w8, hr8, r8, a8⟩ := appG tInf encT_ok (HJ.out.2.2.1.below hbW) (c := 1) hI (by rw [Hdn.out]; omega) (by decide) 24
          have HR8 := Lib.hid hr8
          have F8 : Hid (RG w8 1 encT v8 (T.take (j + 1)) ∧ (∀ g, blk v8 = some g → w.heap.size ≤ g) ∧ Below w.heap.size w w8) := Lib.hid (by
            have bU := bnext HJ.out.2.2.2.2 hbW
            refine ⟨by rw [take_some HTx.out]; exact r8, fun g e => ?_, a8.mod.below bU bU.size (fun i e => HJ.out.2.2.2.1 i e)⟩
            rcases a8.blk with e2 | ⟨g2, e2, h2⟩
            · exact HJ.out.2.2.2.1 g (e2 ▸ e)
            · rw [e2] at e
              obtain rfl := Option.some.inj e
              have := bU.size
              omega)
          clear hbW hI hr8 r8 a8 c0 hxl
          obtain ⟨A9, n9, c9, rfl⟩ : ∃ A9 n9 c9, v8 = .slice A9 n9 c9 := by
            obtain ⟨A9, c9, e⟩ := F8.out.1.shape
            exact ⟨A9, _, c9, e⟩
          cases al with
          | true =>
            go_wp2_with (first | (at_builtin; rw [HW.out, Hp.out]; refine wpList_append_run rfl (.tmp 35) (.tmp 37) 24 rfl (by exact HR8.out) ?_) | fail)
            refine (Name_any s w8).mono ?_
            rw [Hnb.out]
            rintro e w9 ⟨rfl, b9⟩
            have B9 := Lib.hid b9
            clear b9
            go_wp2_with fail
            go_roundw
            case rel => exact ⟨j + 1, (P ++ [47]) ++ s, nb, by omega, by omega, by go_num, by first | rfl | simp, rfl, HPl.out, Lib.hid ⟨HP2.out, by have := HA2.out; simpa using this, F8.out.1.below B9.out, F8.out.2.1, bnext F8.out.2.2 B9.out⟩⟩
            case measure => simp [intOf]; omega
          | false =>
            go_wp2_with (first | (at_builtin; rw [HW.out, Hp.out]; refine wpList_append_run rfl (.tmp 35) (.tmp 37) 24 rfl (by exact HR8.out) ?_) | fail)
            go_roundw
            case rel => exact ⟨j + 1, (P ++ [47]) ++ s, false, by omega, by omega, by go_num, by first | rfl | simp, rfl, HPl.out, Lib.hid ⟨HP2.out, by have := HA2.out; simpa using this, F8.out.1, F8.out.2.1, F8.out.2.2⟩⟩
            case measure => simp [intOf]; omega
        · have hjn : (j : Int) < (n : Int) := by omega
          have hj1 : ¬ (j : Int) < 10 := by omega
          go_wp2_with fail
          go_meet
          case rel => exact ⟨P, A2, dn, c2, T.take j, al, rfl, rfl, rfl, by omega, fin⟩
      · have hjn : ¬ (j : Int) < (n : Int) := by omega
        go_wp2_with fail
        go_meet
        case rel => exact ⟨P, A2, dn, c2, T.take j, al, rfl, rfl, rfl, by omega, fin⟩
  case rest =>
  obtain ⟨P, Am, mn, cm, D, al, rfl, rfl, rfl, hmn, HD⟩ := hcut
  clear HTl HT HG HL hlen
  obtain ⟨wd, Hwd⟩ : ∃ u, Hid (wc = u) := ⟨_, Lib.hid rfl⟩
  go_upto_if 46 with fail
  go_cut [4] (fun p wx => ∃ Q : List UInt8, p = .string (str Q) ∧ Hid (Q = pathOf D) ∧ wx = wc)
  case first =>
    by_cases h0 : mn = 0
    · have HQ : Hid ([47] = pathOf D) := Lib.hid (by rw [List.eq_nil_of_length_eq_zero (HD.out.2.2.1.trans h0)]; rfl)
      subst h0
      go_wp2_with fail
      go_meet
      case rel => exact ⟨[47], rfl, HQ, rfl⟩
    · have HQ : Hid (P = pathOf D) := Lib.hid (by rw [pathOf, if_neg (fun e => h0 (by rw [← HD.out.2.2.1, e]; rfl))]; exact HD.out.1)
      have h1 : ((mn : Int) == 0) = false := by simp; omega
      go_wp2_with fail
      go_meet
      case rel => exact ⟨P, rfl, HQ, rfl⟩
  case rest =>
  obtain ⟨Q, rfl, HQ, hwc⟩ := hcut
  have HD2 : Hid (al = D.all nameB ∧ D.length = mn ∧ (∀ s ∈ D, s.length ≤ 40) ∧ IsG wc 1 encT Am mn D ∧ Below w.heap.size w wc) := Lib.hid (by rw [hwc]; exact HD.out.2)
  have hQl : Q.length ≤ 1000 := by
    rw [HQ.out, pathOf]
    split
    · decide
    · have := joinP_len HD2.out.2.2.1
      have := HD2.out.2.1
      omega
  clear hwc HD Hwd
  go_wp2_with fail
  refine (Split_any Q (by omega) wc (HM.out.below HD2.out.2.2.2.2)).mono ?_
  rintro e w3 ⟨A3, n3, c3, X, b, rfl, h3, s3, b3⟩
  rw [HQ.out] at s3
  have HS := Lib.hid s3
  have T3 : Hid (IsG w3 1 encT A3 n3 X ∧ IsG w3 1 encT Am mn D ∧ Below w.heap.size w w3) := Lib.hid ⟨h3, HD2.out.2.2.2.1.below b3, bnext HD2.out.2.2.2.2 b3⟩
  have hn3 : n3 ≤ 1000 := by rw [← h3.length]; have := s3.len; omega
  clear h3 s3 b3
  by_cases hok : al = true ∧ mn ≤ 8
  · obtain ⟨rfl, hm8⟩ := hok
    have HPk : Hid (PathOk D) := Lib.hid ⟨by rw [HD2.out.2.1]; exact hm8, fun s hs => List.all_eq_true.1 HD2.out.1.symm s hs⟩
    obtain ⟨rfl, rfl⟩ := Splits.of HPk.out HS.out
    have hm8' : ¬ (8 : Int) < (mn : Int) := by omega
    go_wp2_with fail
    refine (SameNames_any X X A3 Am n3 c3 mn cm w3 T3.out.1 T3.out.2.1 hn3 (by omega)).mono ?_
    rw [decide_eq_true rfl]
    rintro e w4 ⟨rfl, b4⟩
    have B4 := Lib.hid (bnext T3.out.2.2 b4)
    clear b4
    go_wp2
    go_ret
    exact ⟨ret_bool (by first | rfl | simp), B4.out⟩
  · have HNo : Hid (¬ PathOk D) := Lib.hid (fun h => hok ⟨by rw [HD2.out.1]; exact List.all_eq_true.2 h.a, by rw [← HD2.out.2.1]; exact h.n⟩)
    have HFin : Hid (b = true → slashT D = false → Q = [47]) := Lib.hid (fun h1 h2 => by rw [HQ.out]; exact paths_say HS.out HNo.out h1 h2)
    have hsw : al = false ∨ (8 : Int) < (mn : Int) := by
      cases al with
      | false => exact .inl rfl
      | true => exact .inr (by have : ¬ mn ≤ 8 := fun e => hok ⟨rfl, e⟩; omega)
    clear hok
    go_upto_region 15 with (fail)
    go_cut [58] (fun s wx => s = .bool true ∧ wx = w3)
    case first =>
      rcases hsw with rfl | h8
      · go_wp2_with fail
        go_meet
        case rel => exact ⟨by first | rfl | simp, rfl⟩
      · cases al with
        | false =>
          go_wp2_with fail
          go_meet
          case rel => exact ⟨by first | rfl | simp, rfl⟩
        | true =>
          go_wp2_with fail
          go_meet
          case rel => exact ⟨by first | rfl | simp [h8], rfl⟩
    case rest =>
    obtain ⟨rfl, hwc⟩ := hcut
    have T4 : Hid (IsG wc 1 encT Am mn D ∧ Below w.heap.size w wc) := Lib.hid (by rw [hwc]; exact T3.out.2)
    clear hwc T3
    go_wp2_with fail
    go_loopw [11, 12] (fun s i wr => ∃ (j : Nat) (sm : Bool), j ≤ mn ∧ i = .int .i64 j ∧ s = .bool sm ∧ Hid (sm = slashT (D.take j)) ∧ Hid (Below wc.heap.size wc wr)) (fun _ i _ => mn - (intOf i).toNat)
    case atStart => exact ⟨0, false, Nat.zero_le _, rfl, rfl, Lib.hid rfl, Lib.hid (Below.refl _ _)⟩
    case round =>
      obtain ⟨j, sm, hj, rfl, rfl, Hsm, HB⟩ := hrel
      by_cases hlt : j < mn
      · have hji : (j : Int) < (mn : Int) := by omega
        obtain ⟨t, Ht⟩ : ∃ a, Hid (D[j]? = some a) := ⟨D[j]'(by have := HD2.out.2.1; omega), Lib.hid (List.getElem?_eq_getElem _)⟩
        have htl := HD2.out.2.2.1 t (List.mem_of_getElem? Ht.out)
        obtain ⟨gx, ox, hAs, hgx⟩ := (T4.out.1.below HB.out).txt Ht.out
        subst hAs
        have Hst := Lib.hid (slash_step Ht.out)
        obtain ⟨we, Hwe⟩ : ∃ u, Hid (Below wc.heap.size wc u ∧ u = wr) := ⟨wr, Lib.hid ⟨HB.out, rfl⟩⟩
        clear hgx
        go_wp2_with fail
        go_loopw [11, 13] (fun s k wz => ∃ (k3 : Nat) (sn : Bool), k3 ≤ t.length ∧ k = .int .i64 k3 ∧ s = .bool sn ∧ Hid (sn = (sm || (t.take k3).any (· == 47))) ∧ Hid (Below wc.heap.size wc wz)) (fun _ k _ => t.length - (intOf k).toNat)
        case atStart => exact ⟨0, sm, Nat.zero_le _, rfl, rfl, Lib.hid (by simp), Lib.hid HB.out⟩
        case round =>
          obtain ⟨k3, sn, hk3, rfl, rfl, Hsn, HZ⟩ := hrel
          obtain ⟨_, _, hAs, hcell⟩ := (T4.out.1.below HZ.out).txt Ht.out
          injection hAs with hAs
          injection hAs with q1 q2 q3
          subst q1 q2
          by_cases hlk : k3 < t.length
          · have hki : (k3 : Int) < (t.length : Int) := by omega
            have hk0 : (0 : Int) ≤ (k3 : Int) := by omega
            have Hsn2 := Lib.hid (any_step hlk)
            cases sn with
            | true =>
              go_wp2_with fail
              go_roundw
              case rel => exact ⟨k3 + 1, true, by omega, by go_num, rfl, Lib.hid (by rw [Hsn2.out, ← Bool.or_assoc, ← Hsn.out]; rfl), HZ⟩
              case measure => simp [intOf]; omega
            | false =>
              obtain ⟨cc, Hcc⟩ : ∃ cc, Hid (t[k3]'hlk = cc) := ⟨_, Lib.hid rfl⟩
              obtain ⟨q, Hq⟩ : ∃ q, Hid ((cc == 47) = q) := ⟨_, Lib.hid rfl⟩
              have hcq : ((cc.toNat : Int) == 47) = q := by
                rw [← Hq.out]
                by_cases e : cc = 47
                · subst e; rfl
                · have : cc.toNat ≠ 47 := fun e2 => e (UInt8.toNat_inj.1 e2)
                  rw [beq_eq_false_iff_ne.2 e, beq_eq_false_iff_ne]
                  omega
              rw [Hcc.out, Hq.out] at Hsn2
              have hget := Hcc.out
              go_wp2_with fail
              go_roundw
              case rel => exact ⟨k3 + 1, q, by omega, by go_num, by first | rfl | simp [hcq], Lib.hid (by rw [Hsn2.out, ← Bool.or_assoc, ← Hsn.out]; rfl), HZ⟩
              case measure => simp [intOf]; omega
          · obtain rfl : k3 = t.length := by omega
            have hki : ¬ (t.length : Int) < (t.length : Int) := by omega
            have HE : Hid (sn = slashT (D.take (j + 1))) := Lib.hid (by rw [Hst.out, ← Hsm.out, Hsn.out, List.take_length])
            go_wp2_with fail
            go_roundw
            case rel => exact ⟨j + 1, sn, by omega, by go_num, rfl, HE, HZ⟩
            case measure => simp [intOf]; omega
      · obtain rfl : j = mn := by omega
        have hji : ¬ (j : Int) < (j : Int) := by omega
        have HE : Hid (sm = slashT D) := Lib.hid (by rw [Hsm.out, List.take_of_length_le (by rw [HD2.out.2.1]; omega)])
        have F : Hid (Below w.heap.size w wr) := Lib.hid (bnext T4.out.2 HB.out)
        cases b with
        | false =>
          go_wp2_with fail
          go_ret
          exact ⟨ret_bool (by first | rfl | simp), F.out⟩
        | true =>
          cases sm with
          | true =>
            go_wp2_with fail
            go_ret
            exact ⟨ret_bool (by first | rfl | simp), F.out⟩
          | false =>
            have hQ : (Q == [47]) = true := by rw [HFin.out rfl HE.out.symm]; rfl
            go_wp2_with fail
            go_ret
            exact ⟨ret_bool (by first | rfl | simp), F.out⟩
set_option maxRecDepth 100000 in
theorem lifted (os : Os) (started : os.Started) (H : Type) (enc : TypeId × Value → H) :
    ReturnsInHanded {} Tryd.checked os 4 .any (fun w args => (Rows.entryPathsSpec.pre enc Tryd.prog Tryd.f4 [] false w args ∧ laidMetH Tryd.prog laidT w) ∧ sizedMet enc Tryd.prog Tryd.f4 (OpenSpec.ofChange Rows.entryPathsSpec) false w args)
      (Rows.entryPathsSpec.post enc Tryd.prog Tryd.f4 false true false false) := by
  refine lift15 (C := Tryd.checked) (X := fun w _ => laidMetH Tryd.prog laidT w) (fun _ _ _ hh h => h.of_heap hh) own started (by kernel_rfl) Tryd.func4
    (ChangeSpec.witness_shaped (enc := enc) (C := Tryd.checked) (os := os) (X := fun w _ => laidMetH Tryd.prog laidT w) false (World.laidAll Tryd.prog os laidT) #[.slice none 0 0] 8 (World.laidAll_os _ _ _) (World.shaped_of_ZipB (by kernel_rfl) (by kernel_rfl)) (by kernel_rfl) (by kernel_rfl) (by kernel_rfl) (door_met os _)) ?_
  intro W base args ds gs before hval0 hW _ _ _ hsh _
  have hval : ∀ (j : Nat) t v, Tryd.f4.params[j]? = some t → args[j]? = some v → Value.okWide Tryd.prog W .any base t v := hval0
  have hW' := hW
  obtain ⟨p, q, hA0, hV, rfl, hfz, hnd⟩ := hW
  have hA : DataW.TrodAll enc Tryd.prog W 0 (fun _ => true) true Tryd.f4.params.toList args.toList ds p := hA0
  rw [Tryd.params4] at hA hval
  obtain ⟨v0, vs0, d0, ds0, p0, q0, hargs, rfl, rfl, h0, r0⟩ := trodAll_cons hA
  obtain ⟨rfl, rfl, rfl⟩ := trodAll_nil r0
  obtain rfl : args = #[v0] := by cases args; simp_all
  obtain ⟨x0, len0, cap0, a0, rfl, w0⟩ := opens_strs Tryd.underlying24 Tryd.underlying9 (by kernel_rfl) (hval 0 24 v0 rfl rfl) h0
  clear hA0 hval0
  refine (walk x0 len0 cap0 a0 W w0 (mx_of_shape hsh)).mono fun e W' ⟨he, bel⟩ => ?_
  subst he
  exact ⟨_, rfl, law_post laidOut (by rw [Tryd.params4]; decide +kernel) rfl Tryd.underlying4 rfl hW' (fun _ => rfl) bel⟩
theorem over : Rows.entryPathsRow.holds Tryd.pinned (OpenSpec.ofChange Rows.entryPathsSpec) :=
  OpenClaim.holds_of_wide 4 Tryd.f4 rfl rfl rfl rfl rfl rfl rfl ⟨rfl, rfl, rfl, rfl, rfl⟩ rfl rfl rfl rfl rfl (by kernel_rfl) Tryd.func4 (by kernel_rfl)
    (of_decide_eq_true (by kernel_rfl)) (by unfold Func.isWrapper; first | (rw [if_pos (by decide +kernel)]; kernel_rfl) | (rw [if_neg (by decide +kernel)]; exact ⟨rfl, rfl⟩))
    (fun os started H enc _ => lifted os started H enc)
theorem proved : Rows.EntryPathsCardSaid :=
  Claim7.holds_tied_plain_at .later [] [.data, .pinned] true Rows.entryPathsCard.stood.harness false over (fun _ h => by cases h) (by kernel_rfl) (fun _ h => by cases h) entryPaths_row_tie rfl ⟨rfl, rfl⟩ (by kernel_rfl) rfl
    (fun f fn hf hfn => by
      obtain rfl : f = 4 := Option.some.inj ((show Tryd.prog.funcNamed "lockgate/lockgatelaw15.EntryPaths" = some 4 by kernel_rfl).symm.trans hf) |>.symm
      obtain rfl : fn = Tryd.f4 := (Option.some.inj (Tryd.func4.symm.trans hfn)).symm
      exact ⟨by kernel_rfl, fun j t ht => by
        rw [Tryd.params4] at ht
        have hm : t ∈ [24] := by simpa using Array.mem_of_getElem? ht
        have hall : ([24].all fun u => !Tryd.prog.wantsStandIn u) = true := by kernel_rfl
        exact (show Tryd.prog.wantsStandIn t = false by simpa using List.all_eq_true.1 hall t hm)⟩)
    (by kernel_rfl)
end Go.Proofs.YtnoidhfhnaemgaaDoor.entryPaths
