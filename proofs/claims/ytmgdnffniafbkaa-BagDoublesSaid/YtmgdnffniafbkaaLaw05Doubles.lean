/- BagDoubles: the one that is doubled waits behind all others of its link, and where it was. No conditions. -/
import Derived.Test.YtmgdnffniafbkaaRows
import Derived.Test.YtmgdnffniafbkaaAwake05
import Derived.Test.YtmgdnffniafbkaaOps05
import Derived.Test.YtmgdnffniafbkaaLk05
namespace Go.Proofs.Ytmgdnffniafbkaa.bagDoubles
open Go.RowKit Go.ChangeShapes Go.WideShapes Go.ChangeAt
open Go.ChangeMaps (open_string shut_string)

set_option maxRecDepth 100000 in
set_option maxHeartbeats 4000000 in
theorem walk (x0 : Option Addr) (len0 cap0 : Nat) (vs : Nat → OpV) (x : Int) (W : World) (hops : IsOps W x0 len0 vs) (_ : len0 ≤ cap0) (hx : (Lit.int .i64 x).wf = true) :
    Calls Try.prog 9 #[.slice x0 len0 cap0, .int .i64 x] W fun e W' => e = .returned (.bool true) ∧ Below W.heap.size W W' := by
  have hmax : len0 ≤ 9223372036854775807 := by have := hops.max; unfold maxLen at this; omega
  have Hops := Lib.hid hops
  have Hx := Lib.hid hx
  have Hw0 : Hid ((Lit.int .i64 0).wf = true) := Lib.hid (by decide)
  obtain ⟨hx1, hx2⟩ := wf_bounds hx
  obtain ⟨i0, hi0, hz0, hz1, hz2⟩ := info_parts infoS
  have Hi := Lib.hid hi0
  have Hz0 := Lib.hid hz0
  have Hz1 := Lib.hid hz1
  have Hz2 := Lib.hid hz2
  clear hi0 hz0 hz1 hz2 hops hx
  go_enter Try.func9, Try.ntmps9
  go_wp2_with fail
  refine (awake_any _).mono ?_
  rintro e w2 ⟨rfl, hb2⟩
  have Hb2 := Lib.hid hb2
  clear hb2
  go_wp2_with fail
  refine (New_own W Hb2.out).mono ?_
  rintro e w3 ⟨b, rfl, h3, _⟩
  have H3 := Lib.hid h3
  clear h3
  go_wp2
  go_loopw [7, 8] (fun v i wr => ∃ n : Nat, i = .int .i64 (n : Int) ∧ n ≤ len0 ∧ n ≤ 20 ∧ Hid (Beside W wr b (lk 19 (bodies vs n)) v (bodies vs n))) (fun _ i _ => 20 - (intOf i).toNat)
  case atStart => exact ⟨0, rfl, Nat.zero_le _, by omega, Lib.hid (by rw [show bodies vs 0 = [] from rfl, lk_nil]; exact Beside.start H3.out)⟩
  case round =>
    obtain ⟨n, rfl, hn, hn20, HB⟩ := hrel
    obtain ⟨av, cap, hv⟩ := HB.out.row.slice
    subst hv
    rw [bodies_length] at HB ⊢
    by_cases hlt : n < len0 ∧ n < 20
    · obtain ⟨hlt1, hlt2⟩ := hlt
      obtain ⟨bo, off, rfl, hop⟩ := Hops.out.at HB.out.own.below hlt1
      have cb := hop.body
      have hbl := hop.wbody
      obtain ⟨y, Hy⟩ : ∃ y, Hid ((vs n).body = y) := ⟨_, Lib.hid rfl⟩
      rw [Hy.out] at cb hbl
      have Hbl := Lib.hid hbl
      clear hop hbl
      go_wp2_with fail
      obtain ⟨z, Hz⟩ : ∃ z, Hid (y.take 60 = z) := ⟨_, Lib.hid rfl⟩
      refine (short_any y Hbl.out 60 _).mono ?_
      rw [Hz.out]
      rintro e w4 ⟨rfl, rfl⟩
      have hz60 : z.length ≤ 60 := by rw [← Hz.out]; simp; omega
      have Hn : Hid ((bodies vs n).length = n) := Lib.hid (bodies_length vs n)
      have Hsz : Hid (z.length ≤ 9223372036854775807) := Lib.hid (by omega)
      have Hsb : Hid (sendB (lk 19 (bodies vs n)) 2 3 z = true) := Lib.hid (lk_sendB (i := 2) (j := 3) (by decide) (by decide) (by decide) _ z (by omega) (by rw [Hn.out]; omega))
      have Hss : Hid (sendS (lk 19 (bodies vs n)) 2 3 z = lk 19 (bodies vs (n + 1))) := Lib.hid (by rw [bodies_succ, Hy.out, Hz.out]; exact lk_sendS (i := 2) (j := 3) (by decide) (by decide) (by decide) _ z (by omega) (by rw [Hn.out]; omega))
      have Hc3 : Hid (n + 1 ≤ maxLen) := Lib.hid (by unfold maxLen; omega)
      have Hc4 : Hid ((n + 1) * 16 ≤ 140737488355328) := Lib.hid (by omega)
      go_wp2_with fail
      refine (Send_own HB.out.own 2 3 z Hsz.out).mono ?_
      rw [Hsb.out, Hss.out]
      rintro e w5 ⟨rfl, h5, m5⟩
      have H5 := Lib.hid (HB.out.left h5 m5)
      clear h5 m5
      have Hrow5 : Hid (Row (w5.alloc (.cells #[.string (str z)] 9)) 1 (.slice av n cap) n (sv (bodies vs n))) := Lib.hid (by
        have h := (H5.out.later ((Below.refl _ w5).alloc (Nat.le_refl _) (.cells #[.string (str z)] 9))).row
        unfold Rw at h
        rw [Hn.out] at h
        exact h)
      go_wp2_with (at_builtin; refine wpList_append_row _ rfl (.tmp 38) (.tmp 40) 48 rfl Hrow5.out 9 i0 (.string ByteArray.empty) 16 Try.underlying48 Hi.out Hz0.out Hz1.out Hz2.out rfl (by decide) rfl ⟨w5.heap.size, 0, none⟩ 1 1 [.string (str z)] rfl rfl (txt1 w5 z) (one1 z) (by decide) Hc3.out Hc4.out ?_; intro q cap' w6 hr6 hm6 hb6; have H6 := Lib.hid (H5.out.more (x := z) (v' := .slice (some q) (n + 1) cap') (by rw [Hn.out]; exact hr6) hm6 hb6); clear hr6 hm6 hb6)
      go_roundw
      case rel => exact ⟨n + 1, by go_num, by omega, by omega, Lib.hid (by rw [bodies_succ vs n, Hy.out, Hz.out]; rw [bodies_succ vs n, Hy.out, Hz.out] at H6; exact H6.out)⟩
      case measure => simp [intOf]; omega
    · have Hn : Hid ((bodies vs n).length = n) := Lib.hid (bodies_length vs n)
      have hway : (decide (n < len0) = false) ∨ (decide (n < len0) = true ∧ decide ((n : Int) < 20) = false) := by
        by_cases h : n < len0
        · exact .inr ⟨by simpa using h, by simp; omega⟩
        · exact .inl (by simpa using h)
      clear hlt
      rcases hway with hw1 | ⟨hw1, hw2⟩
      all_goals
        by_cases hn0 : n = 0
        · have hne : ((n : Int) == 0) = true := beq_yes (by omega)
          have Hdb : Hid (dbB (lk 19 (bodies vs n)) 2 3 = false) := Lib.hid (by rw [hn0]; rfl)
          clear hn0
          go_wp2_with fail
          refine (Double_own HB.out.own 2 3 Hx.out).mono ?_
          rw [Hdb.out]
          rintro e w5 ⟨rfl, h5, _⟩
          have H5 := Lib.hid h5
          clear h5
          go_wp2
          go_ret
          exact ⟨rfl, H5.out.below⟩
        · have hne : ((n : Int) == 0) = false := beq_no (by omega)
          have h0n : 0 < n := by omega
          have hpl := wh_lt x h0n
          have hxn : (x < 0 ∧ -((x + 1).tmod (n : Int)) = ((wh x n : Nat) : Int)) ∨ (0 ≤ x ∧ x % (n : Int) = ((wh x n : Nat) : Int)) := by
            rcases Int.lt_or_le x 0 with h | h
            · exact .inl ⟨h, wh_neg h n⟩
            · exact .inr ⟨h, wh_pos h n⟩
          obtain ⟨p, Hp⟩ : ∃ p, Hid (wh x n = p) := ⟨_, Lib.hid rfl⟩
          rw [Hp.out] at hpl hxn
          obtain ⟨t, Ht⟩ : ∃ t, Hid (nth (bodies vs n) p = t) := ⟨_, Lib.hid rfl⟩
          obtain ⟨L, HL⟩ : ∃ L, Hid (bodies vs n ++ [t] = L) := ⟨_, Lib.hid rfl⟩
          have HLl : Hid (L.length = n + 1) := Lib.hid (by rw [← HL.out]; simp [Hn.out])
          have HdB : Hid (dbB (lk 19 (bodies vs n)) 2 3 = true) := Lib.hid (by
            have := lk_dbB (i := 2) (j := 3) (by decide) (by decide) (by decide) (bodies vs n)
            rw [Hn.out, decide_eq_true h0n, decide_eq_true (show n < 200 by omega)] at this
            exact this)
          have HdS : Hid (dbS (lk 19 (bodies vs n)) 2 3 x = lk 19 L) := Lib.hid (by
            have := lk_dbS (i := 2) (j := 3) (by decide) (by decide) (by decide) (bodies vs n) x (by rw [Hn.out]; exact h0n) (by rw [Hn.out]; omega)
            rw [Hn.out, Hp.out, Ht.out, HL.out] at this
            exact this)
          obtain ⟨N1, HN1⟩ : ∃ N1, Hid (n + 1 = N1) := ⟨_, Lib.hid rfl⟩
          have HwL : Hid ((onL (lk 19 L) 2 3).length = N1) := Lib.hid (by
            have := lk_on (i := 2) (j := 3) (by decide) (by decide) (by decide) L
            have e : onL (lk 19 L) 2 3 = L := this
            rw [e, HLl.out]; exact HN1.out)
          have hN1 : ((N1 : Int) != (n : Int) + 1) = false := bne_no (by have := HN1.out; omega)
          have Hc3 : Hid (n + 1 ≤ maxLen) := Lib.hid (by unfold maxLen; omega)
          have Hc4 : Hid ((n + 1) * 16 ≤ 140737488355328) := Lib.hid (by omega)
          have hp : p < n := hpl
          clear hpl hn0
          rcases hxn with ⟨hneg, e1⟩ | ⟨hpos, e1⟩
          all_goals
            try have hz : -9223372036854775808 ≤ x + 1 := by omega
            go_wp2_with fail
            refine (Double_own HB.out.own 2 3 Hx.out).mono ?_
            rw [HdB.out, HdS.out]
            rintro e w5 ⟨rfl, h5, m5⟩
            have H5 := Lib.hid (HB.out.left h5 m5)
            clear h5 m5
            go_wp2_with fail
            refine (Waits_own H5.out.own 2 3).mono ?_
            rw [HwL.out]
            rintro e w6 ⟨rfl, rfl⟩
            obtain ⟨g, off, capg, hvg, hcg⟩ := H5.out.row.get (i := p) (by rw [Hn.out]; exact hp)
            rw [Hn.out] at hvg
            injection hvg with ea _ ec
            subst ea ec
            rw [show (bodies vs n)[p]'(by rw [Hn.out]; exact hp) = t by rw [← Ht.out, nth_get]] at hcg
            have Hrow5 : Hid (Row (w5.alloc (.cells #[.string (str t)] 9)) 1 (.slice (some ⟨g, off, none⟩) n cap) n (sv (bodies vs n))) := Lib.hid (by
              have h := (H5.out.later ((Below.refl _ w5).alloc (Nat.le_refl _) (.cells #[.string (str t)] 9))).row
              unfold Rw at h
              rw [Hn.out] at h
              exact h)
            go_wp2_with (at_builtin; refine wpList_append_row _ rfl (.tmp 70) (.tmp 78) 48 rfl Hrow5.out 9 i0 (.string ByteArray.empty) 16 Try.underlying48 Hi.out Hz0.out Hz1.out Hz2.out rfl (by decide) rfl ⟨w5.heap.size, 0, none⟩ 1 1 [.string (str t)] rfl rfl (txt1 w5 t) (one1 t) (by decide) Hc3.out Hc4.out ?_; intro q cap' w6 hr6 hm6 hb6; have H6 := Lib.hid (H5.out.more (x := t) (v' := .slice (some q) (n + 1) cap') (by rw [Hn.out]; exact hr6) hm6 hb6); clear hr6 hm6 hb6)
            rw [HL.out] at H6
            go_loopw [11] (fun i wr => ∃ j : Nat, i = .int .i64 (j : Int) ∧ j ≤ n + 1 ∧ Hid (Beside W wr b (lk 19 (L.drop j)) (.slice (some q) (n + 1) cap') L)) (fun i _ => n + 1 - (intOf i).toNat)
            case atStart => exact ⟨0, rfl, by omega, H6⟩
            case round =>
              obtain ⟨j, rfl, hj, HBj⟩ := hrel
              by_cases hjt : j < n + 1
              · obtain ⟨g2, off2, capg2, hvg2, hcg2⟩ := HBj.out.row.get (i := j) (by rw [HLl.out]; exact hjt)
                rw [HLl.out] at hvg2
                injection hvg2 with ea2 _ ec2
                injection ea2 with ea2
                subst ea2 ec2
                obtain ⟨u, Hu⟩ : ∃ u, Hid (nth L j = u) := ⟨_, Lib.hid rfl⟩
                rw [show L[j]'(by rw [HLl.out]; exact hjt) = u by rw [← Hu.out, nth_get]] at hcg2
                obtain ⟨k1, k2, k3⟩ := lk_take0 (i := 2) (j := 3) (by decide) (by decide) (by decide) L j (by rw [HLl.out]; exact hjt)
                have K1 := Lib.hid k1
                have K2 := Lib.hid k2
                have K3 := Lib.hid k3
                clear k1 k2 k3
                have hjd : decide ((j : Int) < (n : Int) + 1) = true := by simp; omega
                go_wp2_with fail
                refine (Take_own (s := lk 19 (L.drop j)) HBj.out.own 2 3 Hw0.out).mono ?_
                rw [show tkT (lk 19 (L.drop j)) 2 3 0 = nth L j from K1.out, show tkB (lk 19 (L.drop j)) 2 3 = true from K3.out, show tkS (lk 19 (L.drop j)) 2 3 0 = lk 19 (L.drop (j + 1)) from K2.out, Hu.out]
                rintro e w7 ⟨rfl, h7, m7⟩
                have hcg7 := (m7.cell (q := g2) (o := off2 + j) rfl (HBj.out.row.blk_lt rfl)).trans hcg2
                have H7 := Lib.hid (HBj.out.left h7 m7)
                clear h7 m7
                go_wp2
                go_roundw
                case rel => exact ⟨j + 1, by go_num, by omega, H7⟩
                case measure => simp [intOf]; omega
              · obtain rfl : j = n + 1 := by omega
                have hjd : decide ((n : Int) + 1 < (n : Int) + 1) = false := by simp
                have Hw9 : Hid ((onL (lk 19 (L.drop (n + 1))) 2 3).length = 0) := Lib.hid (by
                  have := lk_on (i := 2) (j := 3) (by decide) (by decide) (by decide) (L.drop (n + 1))
                  rw [show lk 19 (L.drop (n + 1)) = lk (8 * 2 + 3) (L.drop (n + 1)) from rfl]
                  have e : onL (lk (8 * 2 + 3) (L.drop (n + 1))) 2 3 = L.drop (n + 1) := this
                  rw [e, List.length_drop, HLl.out]; omega)
                go_wp2_with fail
                refine (Waits_own HBj.out.own 2 3).mono ?_
                rw [Hw9.out]
                rintro e w9 ⟨rfl, rfl⟩
                go_wp2
                go_ret
                exact ⟨rfl, HBj.out.own.below⟩
theorem own : ownKnob Try.prog.godebug = none := by kernel_rfl
theorem laidOut : laidOutB Try.prog = true := by kernel_rfl
set_option maxRecDepth 100000 in
theorem lifted (os : Os) (started : os.Started) (H : Type) (enc : TypeId × Value → H) :
    ReturnsInHanded {} Try.checked os 9 .any (Rows.bagDoublesSpec.pre6 enc Try.prog Try.f9 Rows.bagDoublesRow.domain false) (Rows.bagDoublesSpec.post enc Try.prog Try.f9 false true false false) := by
  refine returnsInHanded_of_change (C := Try.checked) own started (by kernel_rfl) Try.func9
    (ChangeSpec.witness6 (enc := enc) (C := Try.checked) false ⟨#[], #[.slice none 0 0, .int .i64 0], []⟩ 8 (by kernel_rfl) (by kernel_rfl) (by kernel_rfl) (by kernel_rfl)) ?_
  intro W base args ds gs before hval0 hW hcnd _
  have hval : ∀ (j : Nat) t v, Try.f9.params[j]? = some t → args[j]? = some v → Value.okWide Try.prog W .any base t v := hval0
  have hW' := hW
  obtain ⟨p, q, hA0, hV, rfl, hfz, hnd⟩ := hW
  have hA : DataW.TrodAll enc Try.prog W 0 (fun _ => true) true Try.f9.params.toList args.toList ds p := hA0
  rw [Try.params9] at hA hval
  obtain ⟨v0, vs0, d0, ds0, p0, q0, hargs, rfl, rfl, h0, r0⟩ := trodAll_cons hA
  obtain ⟨v1, vs1, d1, ds1, p1, q1, rfl, rfl, rfl, h1, r1⟩ := trodAll_cons r0
  obtain ⟨rfl, rfl, rfl⟩ := trodAll_nil r1
  obtain rfl : args = #[v0, v1] := by cases args; simp_all
  obtain ⟨x0, len0, cap0, a0, rfl, w0, y0⟩ := opens_ops (hval 0 22 v0 rfl rfl) h0
  obtain ⟨a1, rfl, rfl, rfl, w1⟩ := open_int Try.underlying3 (hval 1 3 v1 rfl rfl) h1
  clear hA0 hval0
  refine (walk x0 len0 cap0 a0 a1 W w0 y0 w1).mono fun e W' ⟨he, bel⟩ => ?_
  subst he
  exact ⟨_, rfl, law_post laidOut (by rw [Try.params9]; decide +kernel) rfl Try.underlying4 rfl hW' (fun _ => rfl) bel⟩
theorem over : Rows.bagDoublesRow.holds Try.pinned (OpenSpec.ofChange Rows.bagDoublesSpec) :=
  OpenClaim.holds_of_wide 9 Try.f9 rfl rfl rfl rfl rfl rfl rfl ⟨rfl, rfl, rfl, rfl, rfl⟩ rfl rfl rfl rfl rfl (by kernel_rfl) Try.func9 (by kernel_rfl)
    (of_decide_eq_true (by kernel_rfl)) (by unfold Func.isWrapper; first | (rw [if_pos (by decide +kernel)]; kernel_rfl) | (rw [if_neg (by decide +kernel)]; exact ⟨rfl, rfl⟩))
    (fun os started H enc _ => lifted os started H enc)
theorem proved : Rows.BagDoublesSaid := over
end Go.Proofs.Ytmgdnffniafbkaa.bagDoubles
