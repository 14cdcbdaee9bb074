/- BagLinks: what is done on one link changes nothing on another one; taken always the first one, messages of a link come in the order in which they were sent. No conditions. -/
import Derived.Test.YtmgdnffniafbkaaRows
import Derived.Test.YtmgdnffniafbkaaAwake05
import Derived.Test.YtmgdnffniafbkaaOps05
import Derived.Test.YtmgdnffniafbkaaTwo05
namespace Go.Proofs.Ytmgdnffniafbkaa.bagLinks
open Go.RowKit Go.ChangeShapes Go.WideShapes Go.ChangeAt
open Go.ChangeMaps (open_string shut_string)

set_option maxRecDepth 100000 in
set_option maxHeartbeats 4000000 in
theorem walk (x0 : Option Addr) (len0 cap0 : Nat) (vs : Nat → OpV) (x1 : Option Addr) (len1 cap1 : Nat) (us : Nat → OpV) (W : World) (hops : IsOps W x0 len0 vs) (_ : len0 ≤ cap0) (hops1 : IsOps W x1 len1 us) (_ : len1 ≤ cap1) :
    Calls Try.prog 5 #[.slice x0 len0 cap0, .slice x1 len1 cap1] W fun e W' => e = .returned (.bool true) ∧ Below W.heap.size W W' := by
  have hmax : len0 ≤ 9223372036854775807 := by have := hops.max; unfold maxLen at this; omega
  have hmax1 : len1 ≤ 9223372036854775807 := by have := hops1.max; unfold maxLen at this; omega
  have Hops := Lib.hid hops
  have Hops1 := Lib.hid hops1
  have Hw0 : Hid ((Lit.int .i64 0).wf = true) := Lib.hid (by decide)
  obtain ⟨i0, hi0, hz0, hz1, hz2⟩ := info_parts infoS
  have Hi := Lib.hid hi0
  have Hz0 := Lib.hid hz0
  have Hz1 := Lib.hid hz1
  have Hz2 := Lib.hid hz2
  clear hi0 hz0 hz1 hz2 hops hops1
  go_enter Try.func5, Try.ntmps5
  go_wp2_with fail
  refine (awake_any _).mono ?_
  rintro e w2 ⟨rfl, hb2⟩
  have Hb2 := Lib.hid hb2
  clear hb2
  go_wp2_with fail
  refine (New_own W Hb2.out).mono ?_
  rintro e w3 ⟨b, rfl, h3, _⟩
  have H3 := Lib.hid h3
  clear h3
  go_wp2
  go_loopw [7, 8] (fun v i wr => ∃ (n : Nat) (a c : List (List UInt8)), i = .int .i64 (n : Int) ∧ n ≤ len0 ∧ n ≤ 30 ∧ a.length ≤ n ∧ c.length ≤ n ∧ Hid (Beside W wr b (two a c) v c)) (fun _ i _ => 30 - (intOf i).toNat)
  case atStart => exact ⟨0, [], [], rfl, Nat.zero_le _, by omega, Nat.le_refl _, Nat.le_refl _, Lib.hid (by rw [two_nil]; exact Beside.start H3.out)⟩
  case round =>
    obtain ⟨n, a, c, rfl, hn, hn30, hal, hcl, HB⟩ := hrel
    obtain ⟨av, cap, hv⟩ := HB.out.row.slice
    subst hv
    obtain ⟨m, Hm⟩ : ∃ m, Hid (c.length = m) := ⟨_, Lib.hid rfl⟩
    rw [Hm.out] at HB hcl ⊢
    have Hal := Lib.hid hal
    clear hal
    by_cases hlt : n < len0 ∧ n < 30
    · obtain ⟨hlt1, hlt2⟩ := hlt
      obtain ⟨bo, off, rfl, hop⟩ := Hops.out.at HB.out.own.below hlt1
      have cb := hop.body
      have ck := hop.kind
      have hbl := hop.wbody
      obtain ⟨y, Hy⟩ : ∃ y, Hid ((vs n).body = y) := ⟨_, Lib.hid rfl⟩
      obtain ⟨kd, Hkd⟩ : ∃ kd, Hid ((vs n).kind = kd) := ⟨_, Lib.hid rfl⟩
      rw [Hy.out] at cb hbl
      rw [Hkd.out] at ck
      have Hbl := Lib.hid hbl
      obtain ⟨z, Hz⟩ : ∃ z, Hid (y.take 60 = z) := ⟨_, Lib.hid rfl⟩
      have hz60 : z.length ≤ 60 := by rw [← Hz.out]; simp; omega
      have Hsz : Hid (z.length ≤ 9223372036854775807) := Lib.hid (by omega)
      clear hop hbl
      by_cases hk : kd.tmod 2 = 0
      · have hkb : (kd.tmod 2 == 0) = true := beq_yes hk
        obtain ⟨s1, s2⟩ := two_send (a := a) (c := c) (x := z) (by omega) (by have := Hal.out; omega)
        have S1 := Lib.hid s1
        have S2 := Lib.hid s2
        clear s1 s2 hk
        go_wp2_with fail
        refine (short_any y Hbl.out 60 _).mono ?_
        rw [Hz.out]
        rintro e w4 ⟨rfl, rfl⟩
        go_wp2_with fail
        refine (Send_own HB.out.own 0 1 z Hsz.out).mono ?_
        rw [S1.out, S2.out]
        rintro e w5 ⟨rfl, h5, m5⟩
        have H5 := Lib.hid (HB.out.left h5 m5)
        clear h5 m5
        go_wp2
        go_roundw
        case rel => exact ⟨n + 1, a ++ [z], c, by go_num, by omega, by omega, by have := Hal.out; simp; omega, by have := Hm.out; omega, H5⟩
        case measure => simp [intOf]; omega
      · have hkb : (kd.tmod 2 == 0) = false := beq_no hk
        obtain ⟨s1, s2⟩ := two_send' (a := a) (c := c) (x := z) (by omega) (by have := Hm.out; omega)
        have S1 := Lib.hid s1
        have S2 := Lib.hid s2
        have Hc3 : Hid (m + 1 ≤ maxLen) := Lib.hid (by unfold maxLen; omega)
        have Hc4 : Hid ((m + 1) * 16 ≤ 140737488355328) := Lib.hid (by omega)
        clear s1 s2 hk
        go_wp2_with fail
        refine (short_any y Hbl.out 60 _).mono ?_
        rw [Hz.out]
        rintro e w4 ⟨rfl, rfl⟩
        go_wp2_with fail
        refine (Send_own HB.out.own 1 0 z Hsz.out).mono ?_
        rw [S1.out, S2.out]
        rintro e w5 ⟨rfl, h5, m5⟩
        have H5 := Lib.hid (HB.out.left h5 m5)
        clear h5 m5
        have Hrow5 : Hid (Row (w5.alloc (.cells #[.string (str z)] 9)) 1 (.slice av m cap) m (sv c)) := Lib.hid (by
          have h := (H5.out.later ((Below.refl _ w5).alloc (Nat.le_refl _) (.cells #[.string (str z)] 9))).row
          unfold Rw at h
          rw [Hm.out] at h
          exact h)
        go_wp2_with (at_builtin; refine wpList_append_row _ rfl (.tmp 50) (.tmp 52) 48 rfl Hrow5.out 9 i0 (.string ByteArray.empty) 16 Try.underlying48 Hi.out Hz0.out Hz1.out Hz2.out rfl (by decide) rfl ⟨w5.heap.size, 0, none⟩ 1 1 [.string (str z)] rfl rfl (txt1 w5 z) (one1 z) (by decide) Hc3.out Hc4.out ?_; intro q cap' w6 hr6 hm6 hb6; have H6 := Lib.hid (H5.out.more (x := z) (v' := .slice (some q) (m + 1) cap') (by rw [Hm.out]; exact hr6) hm6 hb6); clear hr6 hm6 hb6)
        go_roundw
        case rel => exact ⟨n + 1, a, c ++ [z], by go_num, by omega, by omega, by have := Hal.out; omega, by have := Hm.out; simp; omega, H6⟩
        case measure => simp [intOf]; omega
    · have hway : (decide (n < len0) = false) ∨ (decide (n < len0) = true ∧ decide ((n : Int) < 30) = false) := by
        by_cases h : n < len0
        · exact .inr ⟨by simpa using h, by simp; omega⟩
        · exact .inl (by simpa using h)
      have HA : Hid (a.length ≤ 30) := Lib.hid (by have := Hal.out; omega)
      have hm30 : m ≤ 30 := by omega
      clear hlt
      rcases hway with hw1 | ⟨hw1, hw2⟩
      all_goals
        go_wp2
        go_loopw [10] (fun i wr => ∃ (k : Nat) (a : List (List UInt8)), i = .int .i64 (k : Int) ∧ k ≤ len1 ∧ k ≤ 10 ∧ a.length ≤ 30 + k ∧ Hid (Beside W wr b (two a c) (.slice av m cap) c)) (fun i _ => 10 - (intOf i).toNat)
        case atStart => exact ⟨0, a, rfl, Nat.zero_le _, by omega, HA.out, HB⟩
        case round =>
          obtain ⟨k, a, rfl, hk, hk10, hal, HB⟩ := hrel
          have Hal2 := Lib.hid hal
          clear hal
          by_cases hlt : k < len1 ∧ k < 10
          · obtain ⟨hlt1, hlt2⟩ := hlt
            obtain ⟨bo, off, rfl, hop⟩ := Hops1.out.at HB.out.own.below hlt1
            have cw := hop.which
            have ck := hop.kind
            have hww := hop.wwhich
            obtain ⟨y, Hy⟩ : ∃ y, Hid ((us k).which = y) := ⟨_, Lib.hid rfl⟩
            obtain ⟨kd, Hkd⟩ : ∃ kd, Hid ((us k).kind = kd) := ⟨_, Lib.hid rfl⟩
            rw [Hy.out] at cw hww
            rw [Hkd.out] at ck
            have Hww := Lib.hid hww
            obtain ⟨sT, eT, lT⟩ := two_take a c y
            have ET := Lib.hid eT
            have LT := Lib.hid lT
            obtain ⟨sD, eD, lD⟩ := two_double a c y
            have ED := Lib.hid eD
            have LD := Lib.hid lD
            clear hop hww eT lT eD lD
            by_cases h0 : kd.tmod 3 = 0
            · have hkb : (kd.tmod 3 == 0) = true := beq_yes h0
              clear h0
              go_wp2_with fail
              refine (Take_own HB.out.own 0 1 Hww.out).mono ?_
              rw [ET.out]
              rintro e w5 ⟨rfl, h5, m5⟩
              have H5 := Lib.hid (HB.out.left h5 m5)
              clear h5 m5
              go_wp2
              go_roundw
              case rel => exact ⟨k + 1, sT, by go_num, by omega, by omega, by have := Hal2.out; have := LT.out; omega, H5⟩
              case measure => simp [intOf]; omega
            · have hkb0 : (kd.tmod 3 == 0) = false := beq_no h0
              have hor : (kd.tmod 3 == 1) = true ∨ ((kd.tmod 3 == 1) = false ∧ (kd.tmod 3 == -1) = true) ∨ ((kd.tmod 3 == 1) = false ∧ (kd.tmod 3 == -1) = false) := by
                cases (kd.tmod 3 == 1) <;> cases (kd.tmod 3 == -1) <;> simp
              clear h0
              rcases hor with hb1 | ⟨hb1, hb2⟩ | ⟨hb1, hb2⟩
              · go_wp2_with fail
                refine (Double_own HB.out.own 0 1 Hww.out).mono ?_
                rw [ED.out]
                rintro e w5 ⟨rfl, h5, m5⟩
                have H5 := Lib.hid (HB.out.left h5 m5)
                clear h5 m5
                go_wp2
                go_roundw
                case rel => exact ⟨k + 1, sD, by go_num, by omega, by omega, by have := Hal2.out; have := LD.out; omega, H5⟩
                case measure => simp [intOf]; omega
              · go_wp2_with fail
                refine (Double_own HB.out.own 0 1 Hww.out).mono ?_
                rw [ED.out]
                rintro e w5 ⟨rfl, h5, m5⟩
                have H5 := Lib.hid (HB.out.left h5 m5)
                clear h5 m5
                go_wp2
                go_roundw
                case rel => exact ⟨k + 1, sD, by go_num, by omega, by omega, by have := Hal2.out; have := LD.out; omega, H5⟩
                case measure => simp [intOf]; omega
              · go_wp2_with fail
                refine (Drop_own HB.out.own 0 1 Hww.out).mono ?_
                rw [ET.out]
                rintro e w5 ⟨rfl, h5, m5⟩
                have H5 := Lib.hid (HB.out.left h5 m5)
                clear h5 m5
                go_wp2
                go_roundw
                case rel => exact ⟨k + 1, sT, by go_num, by omega, by omega, by have := Hal2.out; have := LT.out; omega, H5⟩
                case measure => simp [intOf]; omega
          · have hway : (decide (k < len1) = false) ∨ (decide (k < len1) = true ∧ decide ((k : Int) < 10) = false) := by
              by_cases h : k < len1
              · exact .inr ⟨by simpa using h, by simp; omega⟩
              · exact .inl (by simpa using h)
            have hmm : ((m : Int) != (m : Int)) = false := by simp
            obtain ⟨na, Hna⟩ : ∃ na, Hid (a.length = na) := ⟨_, Lib.hid rfl⟩
            have hna : na ≤ 40 := by have := Hal2.out; have := Hna.out; omega
            clear hlt
            rcases hway with hv1 | ⟨hv1, hv2⟩
            all_goals
              go_wp2_with fail
              refine (Waits_own HB.out.own 1 0).mono ?_
              rw [two_on', Hm.out]
              rintro e w5 ⟨rfl, rfl⟩
              go_wp2
              go_loopw [12] (fun i wr => ∃ j : Nat, i = .int .i64 (j : Int) ∧ j ≤ m ∧ Hid (Beside W wr b (two a (c.drop j)) (.slice av m cap) c)) (fun i _ => m - (intOf i).toNat)
              case atStart => exact ⟨0, rfl, Nat.zero_le _, HB⟩
              case round =>
                obtain ⟨j, rfl, hj, HBj⟩ := hrel
                by_cases hjt : j < m
                · obtain ⟨g2, off2, capg2, hvg2, hcg2⟩ := HBj.out.row.get (i := j) (by rw [Hm.out]; exact hjt)
                  rw [Hm.out] at hvg2
                  injection hvg2 with ea2 _ ec2
                  subst ea2 ec2
                  obtain ⟨u, Hu⟩ : ∃ u, Hid (nth c j = u) := ⟨_, Lib.hid rfl⟩
                  rw [show c[j]'(by rw [Hm.out]; exact hjt) = u by rw [← Hu.out, nth_get]] at hcg2
                  obtain ⟨k1, k2, k3⟩ := two_take0 a c j (by rw [Hm.out]; exact hjt)
                  rw [Hu.out] at k1
                  have K1 := Lib.hid k1
                  have K2 := Lib.hid k2
                  have K3 := Lib.hid k3
                  clear k1 k2 k3
                  go_wp2_with fail
                  refine (Take_own HBj.out.own 1 0 Hw0.out).mono ?_
                  rw [K1.out, K2.out, K3.out]
                  rintro e w7 ⟨rfl, h7, m7⟩
                  have hcg7 := (m7.cell (q := g2) (o := off2 + j) rfl (HBj.out.row.blk_lt rfl)).trans hcg2
                  have H7 := Lib.hid (HBj.out.left h7 m7)
                  clear h7 m7
                  go_wp2
                  go_roundw
                  case rel => exact ⟨j + 1, by go_num, by omega, H7⟩
                  case measure => simp [intOf]; omega
                · obtain rfl : j = m := by omega
                  have HO : Hid (Own W wr b (two a []) (fun g => blk (.slice av j cap) = some g)) := Lib.hid (by
                    have := HBj.out.own
                    rw [List.drop_eq_nil_of_le (by rw [Hm.out]; exact Nat.le_refl _)] at this
                    exact this)
                  go_wp2_with fail
                  refine (Waits_own HO.out 0 1).mono ?_
                  rw [two_on, Hna.out]
                  rintro e w8 ⟨rfl, rfl⟩
                  go_wp2_with fail
                  refine (Void_own HO.out 1).mono ?_
                  rw [two_voidN, two_voidS, if_pos (by decide), Hna.out]
                  rintro e w9 ⟨rfl, h9, m9⟩
                  have H9 := Lib.hid h9
                  clear h9 m9
                  go_wp2_with fail
                  refine (All_own H9.out).mono ?_
                  rw [none_all]
                  rintro e w10 ⟨v10, rfl, hp10, hb10⟩
                  obtain ⟨a10, c10, hv10⟩ := hp10.slice
                  subst hv10
                  have H10 := Lib.hid (H9.out.later hb10)
                  clear hp10 hb10
                  go_wp2
                  go_ret
                  exact ⟨rfl, H10.out.below⟩
theorem own : ownKnob Try.prog.godebug = none := by kernel_rfl
theorem laidOut : laidOutB Try.prog = true := by kernel_rfl
set_option maxRecDepth 100000 in
theorem lifted (os : Os) (started : os.Started) (H : Type) (enc : TypeId × Value → H) :
    ReturnsInHanded {} Try.checked os 5 .any (Rows.bagLinksSpec.pre6 enc Try.prog Try.f5 Rows.bagLinksRow.domain false) (Rows.bagLinksSpec.post enc Try.prog Try.f5 false true false false) := by
  refine returnsInHanded_of_change (C := Try.checked) own started (by kernel_rfl) Try.func5
    (ChangeSpec.witness6 (enc := enc) (C := Try.checked) false ⟨#[], #[.slice none 0 0, .slice none 0 0], []⟩ 8 (by kernel_rfl) (by kernel_rfl) (by kernel_rfl) (by kernel_rfl)) ?_
  intro W base args ds gs before hval0 hW hcnd _
  have hval : ∀ (j : Nat) t v, Try.f5.params[j]? = some t → args[j]? = some v → Value.okWide Try.prog W .any base t v := hval0
  have hW' := hW
  obtain ⟨p, q, hA0, hV, rfl, hfz, hnd⟩ := hW
  have hA : DataW.TrodAll enc Try.prog W 0 (fun _ => true) true Try.f5.params.toList args.toList ds p := hA0
  rw [Try.params5] at hA hval
  obtain ⟨v0, vs0, d0, ds0, p0, q0, hargs, rfl, rfl, h0, r0⟩ := trodAll_cons hA
  obtain ⟨v1, vs1, d1, ds1, p1, q1, rfl, rfl, rfl, h1, r1⟩ := trodAll_cons r0
  obtain ⟨rfl, rfl, rfl⟩ := trodAll_nil r1
  obtain rfl : args = #[v0, v1] := by cases args; simp_all
  obtain ⟨x0, len0, cap0, a0, rfl, w0, y0⟩ := opens_ops (hval 0 22 v0 rfl rfl) h0
  obtain ⟨x1, len1, cap1, a1, rfl, w1, y1⟩ := opens_ops (hval 1 22 v1 rfl rfl) h1
  clear hA0 hval0
  refine (walk x0 len0 cap0 a0 x1 len1 cap1 a1 W w0 y0 w1 y1).mono fun e W' ⟨he, bel⟩ => ?_
  subst he
  exact ⟨_, rfl, law_post laidOut (by rw [Try.params5]; decide +kernel) rfl Try.underlying4 rfl hW' (fun _ => rfl) bel⟩
theorem over : Rows.bagLinksRow.holds Try.pinned (OpenSpec.ofChange Rows.bagLinksSpec) :=
  OpenClaim.holds_of_wide 5 Try.f5 rfl rfl rfl rfl rfl rfl rfl ⟨rfl, rfl, rfl, rfl, rfl⟩ rfl rfl rfl rfl rfl (by kernel_rfl) Try.func5 (by kernel_rfl)
    (of_decide_eq_true (by kernel_rfl)) (by unfold Func.isWrapper; first | (rw [if_pos (by decide +kernel)]; kernel_rfl) | (rw [if_neg (by decide +kernel)]; exact ⟨rfl, rfl⟩))
    (fun os started H enc _ => lifted os started H enc)
theorem proved : Rows.BagLinksSaid := over
end Go.Proofs.Ytmgdnffniafbkaa.bagLinks
