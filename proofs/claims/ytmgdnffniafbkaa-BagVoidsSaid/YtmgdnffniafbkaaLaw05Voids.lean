/- BagVoids: once all of a node is gone nothing comes from or to it, and all others' messages are as they were. No conditions. -/
import Derived.Test.YtmgdnffniafbkaaRows
import Derived.Test.YtmgdnffniafbkaaAwake05
import Derived.Test.YtmgdnffniafbkaaOps05
import Derived.Test.YtmgdnffniafbkaaVd05
import Derived.Deep.RegionHeld3
namespace Go.Proofs.Ytmgdnffniafbkaa.bagVoids
open Go.RowKit Go.ChangeShapes Go.WideShapes Go.ChangeAt
open Go.ChangeMaps (open_string shut_string)

set_option maxRecDepth 100000 in
set_option maxHeartbeats 4000000 in
theorem walk (x0 : Option Addr) (len0 cap0 : Nat) (vs : Nat → OpV) (x : Int) (W : World) (hops : IsOps W x0 len0 vs) (_ : len0 ≤ cap0) (hx : (Lit.int .i64 x).wf = true) :
    Calls Try.prog 8 #[.slice x0 len0 cap0, .int .i64 x] W fun e W' => e = .returned (.bool true) ∧ Below W.heap.size W W' := by
  have hmax : len0 ≤ 9223372036854775807 := by have := hops.max; unfold maxLen at this; omega
  have Hops := Lib.hid hops
  obtain ⟨d, Hd, hd3⟩ := and_small x 3 (.inl rfl)
  obtain ⟨i0, hi0, hz0, hz1, hz2⟩ := info_parts infoP
  have Hi := Lib.hid hi0
  have Hz0 := Lib.hid hz0
  have Hz1 := Lib.hid hz1
  have Hz2 := Lib.hid hz2
  clear hi0 hz0 hz1 hz2 hops
  go_enter Try.func8, Try.ntmps8
  go_wp2_with fail
  refine (awake_any _).mono ?_
  rintro e w2 ⟨rfl, hb2⟩
  have Hb2 := Lib.hid hb2
  clear hb2
  go_wp2_with fail
  refine (New_own W Hb2.out).mono ?_
  rintro e w3 ⟨b, rfl, h3, _⟩
  have H3 := Lib.hid h3
  clear h3
  go_wp2
  have hdv := Hd.out
  rw [show ((3 : Nat) : Int) = 3 from rfl] at hdv
  rw [hdv]
  go_loopw [9, 10] (fun g i wr => ∃ (n m : Nat) (s : NS), i = .int .i64 (n : Int) ∧ n ≤ len0 ∧ n ≤ 30 ∧ g = .int .i64 (m : Int) ∧ m ≤ n ∧ Hid (m = voidN s (d : Int) 64) ∧ Hid (sum s 64 ≤ n) ∧ Hid (Own W wr b s (fun _ => False))) (fun _ i _ => 30 - (intOf i).toNat)
  case atStart => exact ⟨0, 0, NS.none, rfl, Nat.zero_le _, by omega, rfl, Nat.le_refl _, Lib.hid (void_none _ _).symm, Lib.hid (by rw [sum_none]; exact Nat.le_refl _), H3⟩
  case round =>
    obtain ⟨n, m, s, rfl, hn, hn30, rfl, hm, Hm, Hsum, HO⟩ := hrel
    by_cases hlt : n < len0 ∧ n < 30
    · obtain ⟨hlt1, hlt2⟩ := hlt
      obtain ⟨bo, off, rfl, hop⟩ := Hops.out.at HO.out.below hlt1
      obtain ⟨y, Hy⟩ : ∃ y, Hid ((vs n).body = y) := ⟨_, Lib.hid rfl⟩
      obtain ⟨fr, Hfr⟩ : ∃ fr, Hid ((vs n).frm = fr) := ⟨_, Lib.hid rfl⟩
      obtain ⟨tt, Htt⟩ : ∃ tt, Hid ((vs n).to = tt) := ⟨_, Lib.hid rfl⟩
      have cb := hop.body
      have cf := hop.frm
      have ct := hop.to
      have hbl := hop.wbody
      rw [Hy.out] at cb hbl
      rw [Hfr.out] at cf
      rw [Htt.out] at ct
      have Hbl := Lib.hid hbl
      obtain ⟨z, Hz⟩ : ∃ z, Hid (y.take 60 = z) := ⟨_, Lib.hid rfl⟩
      have hz60 : z.length ≤ 60 := by rw [← Hz.out]; simp; omega
      obtain ⟨fk, Hfk, hfk⟩ := and_small fr 3 (.inl rfl)
      obtain ⟨tk, Htk, htk⟩ := and_small tt 3 (.inl rfl)
      have hfv := Hfk.out
      have htv := Htk.out
      rw [show ((3 : Nat) : Int) = 3 from rfl] at hfv htv
      have hbo : bo < wr.heap.size := lt_of_cell cb
      have Hkeep : Hid (∀ u, Below wr.heap.size wr u → u.cell? ⟨bo, off + n * 5 + 1, none⟩ = some (.int .i64 fr) ∧ u.cell? ⟨bo, off + n * 5 + 2, none⟩ = some (.int .i64 tt) ∧ u.cell? ⟨bo, off + n * 5 + 4, none⟩ = some (.string (str y))) := Lib.hid fun u hu =>
        ⟨(hu.cell (p := ⟨bo, off + n * 5 + 1, none⟩) hbo).trans cf, (hu.cell (p := ⟨bo, off + n * 5 + 2, none⟩) hbo).trans ct, (hu.cell (p := ⟨bo, off + n * 5 + 4, none⟩) hbo).trans cb⟩
      clear hop hbl
      have hsh : ∀ u, Calls Try.prog 21 #[.string (str y), .int .i64 60] u fun e w' => e = .returned (.string (str z)) ∧ u = w' := fun u => by
        have := short_any y Hbl.out 60 u
        rw [Hz.out] at this
        exact this
      have Hsh := Lib.hid hsh
      clear hsh
      go_wp2_with fail
      go_region_held3 (fun u => Below wr.heap.size wr u ∧ u.cell? ⟨bo, off + n * 5 + 1, none⟩ = some (.int .i64 fr) ∧ u.cell? ⟨bo, off + n * 5 + 2, none⟩ = some (.int .i64 tt) ∧ u.cell? ⟨bo, off + n * 5 + 4, none⟩ = some (.string (str y)))
        (first | exact ⟨Below.refl _ _, Hkeep.out _ (Below.refl _ _)⟩ | exact ⟨(Below.refl _ _).drew, Hkeep.out _ (Below.refl _ _).drew⟩ | exact ⟨((Below.refl _ _).alloc (Nat.le_refl _) _).drew, Hkeep.out _ ((Below.refl _ _).alloc (Nat.le_refl _) _).drew⟩)
        (first | (go_at_call 21; refine (Hsh.out _).mono ?_; rintro e wc ⟨rfl, rfl⟩))
      all_goals
        clear cf ct cb hfv htv
        obtain ⟨u1, Hu1⟩ : ∃ u1, Hid ((wr.alloc (.cells #[.int .i64 (fk : Int), .int .i64 (tk : Int), .string (str z)] 35)).drew = u1) := ⟨_, Lib.hid rfl⟩
        have HB3 : Hid (Boxed3 u1 wr.heap.size 35 (.int .i64 (fk : Int)) (.int .i64 (tk : Int)) (.string (str z))) := Lib.hid (by rw [← Hu1.out]; exact Boxed3.new wr _ _ _ _)
        have Hbl1 : Hid (Below wr.heap.size wr u1) := Lib.hid (by rw [← Hu1.out]; exact ((Below.refl _ _).alloc (Nat.le_refl _) _).drew)
        have HO1 : Hid (Own W u1 b s (fun g => g = wr.heap.size)) := Lib.hid (HO.out.wider Hbl1.out (fun g hg => by subst hg; exact ⟨Nat.le_refl _, HB3.out.lt⟩))
        have Hzl : Hid (z.length ≤ 9223372036854775807) := Lib.hid (by omega)
        by_cases heq : fk = tk
        · subst heq
          obtain ⟨s1, s2⟩ := sent_self s fk z
          have S1 := Lib.hid s1
          have S2 := Lib.hid s2
          clear s1 s2
          go_wp2_with fail
          rw [Hu1.out]
          refine (Send_own HO1.out fk fk z Hzl.out).mono ?_
          rw [S1.out, S2.out]
          rintro e w5 ⟨rfl, h5, m5⟩
          have H5 := Lib.hid (h5.weak (T' := fun _ => False) (fun _ => False.elim))
          clear h5 m5
          go_wp2
          go_roundw
          case rel => exact ⟨n + 1, m, s, by go_num, by omega, by omega, rfl, by omega, Hm, Lib.hid (by have := Hsum.out; omega), H5⟩
          case measure => simp [intOf]; omega
        · obtain ⟨s1, s2, s3⟩ := sent_room (s := s) (i := fk) (j := tk) (by omega) (by omega) heq (z := z) (by omega) (by have := Hsum.out; omega)
          have S1 := Lib.hid s1
          have S3 := Lib.hid s3
          have hv := sent_void (s := s) (i := fk) (j := tk) (d := d) (by omega) (by omega) z
          rw [← s2] at hv
          have HV := Lib.hid hv
          obtain ⟨S', HS'⟩ : ∃ S', Hid (sendS s fk tk z = S') := ⟨_, Lib.hid rfl⟩
          rw [HS'.out] at HV S3
          have hor : ((fk : Int) == (d : Int)) = true ∨ (((fk : Int) == (d : Int)) = false ∧ ((tk : Int) == (d : Int)) = true) ∨ (((fk : Int) == (d : Int)) = false ∧ ((tk : Int) == (d : Int)) = false) := by
            cases ((fk : Int) == (d : Int)) <;> cases ((tk : Int) == (d : Int)) <;> simp
          clear s1 s2 s3 hv heq
          go_wp2_with fail
          rw [Hu1.out]
          refine (Send_own HO1.out fk tk z Hzl.out).mono ?_
          rw [S1.out, HS'.out]
          rintro e w5 ⟨rfl, h5, m5⟩
          have H5 := Lib.hid (h5.weak (T' := fun _ => False) (fun _ => False.elim))
          have d0 := (m5.cell (q := wr.heap.size) (o := 0) rfl HB3.out.lt).trans HB3.out.cell0
          have d1 := (m5.cell (q := wr.heap.size) (o := 1) rfl HB3.out.lt).trans HB3.out.cell1
          clear h5 m5
          rcases hor with h1 | ⟨h1, h2⟩ | ⟨h1, h2⟩
          · have Hone : Hid (voidN S' (d : Int) 64 = m + 1) := Lib.hid (by rw [HV.out, ← Hm.out, h1]; rfl)
            go_wp2
            go_roundw
            case rel => exact ⟨n + 1, m + 1, S', by go_num, by omega, by omega, by go_num, by omega, Lib.hid Hone.out.symm, Lib.hid (by have := Hsum.out; have := S3.out; omega), H5⟩
            case measure => simp [intOf]; omega
          · have Hone : Hid (voidN S' (d : Int) 64 = m + 1) := Lib.hid (by rw [HV.out, ← Hm.out, h1, h2]; rfl)
            go_wp2
            go_roundw
            case rel => exact ⟨n + 1, m + 1, S', by go_num, by omega, by omega, by go_num, by omega, Lib.hid Hone.out.symm, Lib.hid (by have := Hsum.out; have := S3.out; omega), H5⟩
            case measure => simp [intOf]; omega
          · have Hone : Hid (voidN S' (d : Int) 64 = m) := Lib.hid (by rw [HV.out, ← Hm.out, h1, h2]; rfl)
            go_wp2
            go_roundw
            case rel => exact ⟨n + 1, m, S', by go_num, by omega, by omega, rfl, by omega, Lib.hid Hone.out.symm, Lib.hid (by have := Hsum.out; have := S3.out; omega), H5⟩
            case measure => simp [intOf]; omega
    · have hway : (decide (n < len0) = false) ∨ (decide (n < len0) = true ∧ decide ((n : Int) < 30) = false) := by
        by_cases h : n < len0
        · exact .inr ⟨by simpa using h, by simp; omega⟩
        · exact .inl (by simpa using h)
      obtain ⟨L, HL⟩ : ∃ L, Hid (allN s 64 = L) := ⟨_, Lib.hid rfl⟩
      obtain ⟨N, HN⟩ : ∃ N, Hid (L.length = N) := ⟨_, Lib.hid rfl⟩
      have hN30 : N ≤ 30 := by have := all_sum s 64; rw [HL.out, HN.out] at this; have := Hsum.out; omega
      obtain ⟨R, HR⟩ : ∃ R, Hid (L.filter (farB (d : Int)) = R) := ⟨_, Lib.hid rfl⟩
      have HRv : Hid (allN (voidS s (d : Int) 64) 64 = R) := Lib.hid (by rw [all_far s d 64 64 (Nat.le_refl _), HL.out, HR.out])
      have Hag : Hid (voidN (voidS s (d : Int) 64) (d : Int) 64 = 0) := Lib.hid (void_again s d 64 64 (Nat.le_refl _))
      have HR6 : Hid (R.length ≤ 1000000) := Lib.hid (by rw [← HR.out]; have := List.length_filter_le (farB (d : Int)) L; have := HN.out; omega)
      clear hlt
      rcases hway with hw1 | ⟨hw1, hw2⟩
      all_goals
        go_wp2_with fail
        refine (All_own HO.out).mono ?_
        rw [HL.out]
        rintro e u2 ⟨va, rfl, hpa, hba⟩
        obtain ⟨a, cap, hva⟩ := hpa.slice
        subst hva
        have HA := Lib.hid hpa
        rw [HN.out] at HA ⊢
        have HO2 := Lib.hid (HO.out.later hba)
        clear hpa hba
        go_wp2
        go_loopw [8, 13] (fun vr i wr => ∃ k : Nat, i = .int .i64 (k : Int) ∧ k ≤ N ∧ Hid (Ps u2.heap.size wr vr ((L.take k).filter (farB (d : Int)))) ∧ Hid (Below u2.heap.size u2 wr)) (fun _ i _ => N - (intOf i).toNat)
        case atStart => exact ⟨0, rfl, Nat.zero_le _, Lib.hid (Ps.nil _ _), Lib.hid (Below.refl _ _)⟩
        case round =>
          obtain ⟨k, rfl, hk, HP, HBu⟩ := hrel
          obtain ⟨r, Hr⟩ : ∃ r, Hid ((L.take k).filter (farB (d : Int)) = r) := ⟨_, Lib.hid rfl⟩
          rw [Hr.out] at HP
          have hr30 : r.length ≤ 30 := by
            have h1 := List.length_filter_le (farB (d : Int)) (L.take k)
            rw [Hr.out, List.length_take] at h1
            omega
          obtain ⟨ar, capr, hvr⟩ := HP.out.slice
          subst hvr
          obtain ⟨rl, Hrl⟩ : ∃ rl, Hid (r.length = rl) := ⟨_, Lib.hid rfl⟩
          rw [Hrl.out] at HP hr30 ⊢
          have HA2 := Lib.hid (HA.out.below HBu.out)
          by_cases hkt : k < N
          · obtain ⟨g, c1, e1, _, q0, q1, q2⟩ := HA2.out.cells (i := k) (by rw [HN.out]; exact hkt)
            rw [HN.out] at e1
            injection e1 with e1 _ e1c
            subst e1 e1c
            obtain ⟨p, Hp⟩ : ∃ p, Hid (L[k]'(by rw [HN.out]; exact hkt) = p) := ⟨_, Lib.hid rfl⟩
            rw [Hp.out] at q0 q1 q2
            have Htk : Hid ((L.take (k + 1)).filter (farB (d : Int)) = r ++ (if farB (d : Int) p = true then [p] else [])) := Lib.hid (by
              rw [filter_next _ (by rw [HN.out]; exact hkt), Hr.out, Hp.out])
            have hor : (p.1 != (d : Int)) = false ∧ farB (d : Int) p = false ∨ (p.1 != (d : Int)) = true ∧ (p.2.1 != (d : Int)) = false ∧ farB (d : Int) p = false ∨ (p.1 != (d : Int)) = true ∧ (p.2.1 != (d : Int)) = true ∧ farB (d : Int) p = true := by
              have e : farB (d : Int) p = ((p.1 != (d : Int)) && (p.2.1 != (d : Int))) := rfl
              rw [e]
              cases (p.1 != (d : Int)) <;> cases (p.2.1 != (d : Int)) <;> simp
            rcases hor with ⟨h1, hf⟩ | ⟨h1, h2, hf⟩ | ⟨h1, h2, hf⟩
            · rw [hf] at Htk
              clear hf
              go_wp2
              go_roundw
              case rel => exact ⟨k + 1, by go_num, by omega, Lib.hid (by rw [Htk.out, if_neg (by decide), List.append_nil]; exact HP.out), HBu⟩
              case measure => simp [intOf]; omega
            · rw [hf] at Htk
              clear hf
              go_wp2
              go_roundw
              case rel => exact ⟨k + 1, by go_num, by omega, Lib.hid (by rw [Htk.out, if_neg (by decide), List.append_nil]; exact HP.out), HBu⟩
              case measure => simp [intOf]; omega
            · rw [hf] at Htk
              have Hle : Hid (u2.heap.size ≤ wr.heap.size) := Lib.hid HBu.out.size
              have Hrow : Hid ((wr.alloc (.cells #[.int .i64 p.1, .int .i64 p.2.1, .string (str p.2.2)] 35)).ownsRow u2.heap.size 35 3 (.slice ar rl capr) rl (pc r)) := Lib.hid (by
                have h := HP.out
                unfold Ps at h
                rw [Hrl.out] at h
                exact World.ownsRow.alloc h _)
              have Hle2 : Hid (u2.heap.size ≤ (wr.alloc (.cells #[.int .i64 p.1, .int .i64 p.2.1, .string (str p.2.2)] 35)).heap.size) := Lib.hid (by have := Hle.out; simp; omega)
              have Hc1 : Hid (∀ i u, (pc1 p)[i]? = some u → (wr.alloc (.cells #[.int .i64 p.1, .int .i64 p.2.1, .string (str p.2.2)] 35)).cell? ((⟨wr.heap.size, 0, none⟩ : Addr).add i) = some u) := Lib.hid fun i u hu => by
                match i, hu with
                | 0, hu => simp [pc1] at hu; subst hu; simp [Addr.add, go_sem]
                | 1, hu => simp [pc1] at hu; subst hu; simp [Addr.add, go_sem]
                | 2, hu => simp [pc1] at hu; subst hu; simp [Addr.add, go_sem]
                | i + 3, hu => simp [pc1] at hu
              have Hc2 : Hid (∀ u ∈ pc1 p, u.oneCell' = true) := Lib.hid fun u hu => by
                simp [pc1] at hu
                rcases hu with rfl | rfl | rfl <;> rfl
              have Hc3 : Hid (rl + 1 ≤ maxLen) := Lib.hid (by unfold maxLen; omega)
              have Hc4 : Hid ((rl + 1) * 32 ≤ 140737488355328) := Lib.hid (by omega)
              clear hf
              go_wp2_with (at_builtin; refine wpList_append_own _ rfl (.tmp 96) (.tmp 101) 27 rfl u2.heap.size 35 i0 (.agg #[.int .i64 0, .int .i64 0, .string ByteArray.empty]) 3 32 Try.underlying27 Hi.out Hz0.out Hz1.out Hz2.out rfl (by decide) _ _ _ rfl Hrow.out ⟨wr.heap.size, 0, none⟩ 1 1 (pc1 p) rfl rfl Hc1.out Hc2.out Hc3.out Hc4.out Hle2.out ?_; intro v' w1 hown' hgrow _; obtain ⟨g', cap', rfl⟩ := ownsRow_succ hown'; have Hmore := Lib.hid (HP.out.more Hle.out (by rw [Hrl.out]; exact hown') hgrow); clear hown' hgrow)
              go_roundw
              case rel => exact ⟨k + 1, by go_num, by omega, Lib.hid (by rw [Htk.out, if_pos rfl]; exact Hmore.out.1), Lib.hid (HBu.out.trans Hmore.out.2)⟩
              case measure => simp [intOf]; omega
          · obtain rfl : k = N := by omega
            have HRr : Hid (r = R) := Lib.hid (by rw [← Hr.out, ← HR.out, List.take_of_length_le (by rw [HN.out]; exact Nat.le_refl _)])
            rw [HRr.out] at HP
            have HO3 : Hid (Own W wr b s (fun g => (Value.slice ar rl capr).ownBlock = some g)) := Lib.hid (HO2.out.wider HBu.out (fun g hg => HP.out.own hg))
            have hmm : ((m : Int) == (m : Int)) = true := by simp
            go_wp2_with fail
            refine (Void_own HO3.out d).mono ?_
            rw [← Hm.out]
            rintro e w5 ⟨rfl, h5, m5⟩
            have H5 := Lib.hid h5
            have HP5 := Lib.hid (HP.out.later m5 (fun g hg hn => hn.2 hg))
            clear h5 m5
            go_wp2_with fail
            refine (All_own H5.out).mono ?_
            rw [HRv.out]
            rintro e w6 ⟨v6, rfl, hp6, hb6⟩
            have HP6 := Lib.hid (HP5.out.below hb6)
            have H6 := Lib.hid (H5.out.later hb6)
            have HQ6 := Lib.hid hp6
            obtain ⟨a6, cap6, hv6⟩ := hp6.slice
            subst hv6
            clear hp6 hb6
            go_wp2_with fail
            refine (Same_any HQ6.out HP6.out HR6.out).mono ?_
            rintro e w7 ⟨rfl, hb7⟩
            have H7 := Lib.hid (H6.out.later hb7)
            clear hb7
            go_wp2_with fail
            refine (Void_own H7.out d).mono ?_
            rw [Hag.out]
            rintro e w8 ⟨rfl, h8, _⟩
            have H8 := Lib.hid h8
            clear h8
            go_wp2
            go_ret
            exact ⟨rfl, H8.out.below⟩
theorem own : ownKnob Try.prog.godebug = none := by kernel_rfl
theorem laidOut : laidOutB Try.prog = true := by kernel_rfl
set_option maxRecDepth 100000 in
theorem lifted (os : Os) (started : os.Started) (H : Type) (enc : TypeId × Value → H) :
    ReturnsInHanded {} Try.checked os 8 .any (Rows.bagVoidsSpec.pre6 enc Try.prog Try.f8 Rows.bagVoidsRow.domain false) (Rows.bagVoidsSpec.post enc Try.prog Try.f8 false true false false) := by
  refine returnsInHanded_of_change (C := Try.checked) own started (by kernel_rfl) Try.func8
    (ChangeSpec.witness6 (enc := enc) (C := Try.checked) false ⟨#[], #[.slice none 0 0, .int .i64 0], []⟩ 8 (by kernel_rfl) (by kernel_rfl) (by kernel_rfl) (by kernel_rfl)) ?_
  intro W base args ds gs before hval0 hW hcnd _
  have hval : ∀ (j : Nat) t v, Try.f8.params[j]? = some t → args[j]? = some v → Value.okWide Try.prog W .any base t v := hval0
  have hW' := hW
  obtain ⟨p, q, hA0, hV, rfl, hfz, hnd⟩ := hW
  have hA : DataW.TrodAll enc Try.prog W 0 (fun _ => true) true Try.f8.params.toList args.toList ds p := hA0
  rw [Try.params8] at hA hval
  obtain ⟨v0, vs0, d0, ds0, p0, q0, hargs, rfl, rfl, h0, r0⟩ := trodAll_cons hA
  obtain ⟨v1, vs1, d1, ds1, p1, q1, rfl, rfl, rfl, h1, r1⟩ := trodAll_cons r0
  obtain ⟨rfl, rfl, rfl⟩ := trodAll_nil r1
  obtain rfl : args = #[v0, v1] := by cases args; simp_all
  obtain ⟨x0, len0, cap0, a0, rfl, w0, y0⟩ := opens_ops (hval 0 22 v0 rfl rfl) h0
  obtain ⟨a1, rfl, rfl, rfl, w1⟩ := open_int Try.underlying3 (hval 1 3 v1 rfl rfl) h1
  clear hA0 hval0
  refine (walk x0 len0 cap0 a0 a1 W w0 y0 w1).mono fun e W' ⟨he, bel⟩ => ?_
  subst he
  exact ⟨_, rfl, law_post laidOut (by rw [Try.params8]; decide +kernel) rfl Try.underlying4 rfl hW' (fun _ => rfl) bel⟩
theorem over : Rows.bagVoidsRow.holds Try.pinned (OpenSpec.ofChange Rows.bagVoidsSpec) :=
  OpenClaim.holds_of_wide 8 Try.f8 rfl rfl rfl rfl rfl rfl rfl ⟨rfl, rfl, rfl, rfl, rfl⟩ rfl rfl rfl rfl rfl (by kernel_rfl) Try.func8 (by kernel_rfl)
    (of_decide_eq_true (by kernel_rfl)) (by unfold Func.isWrapper; first | (rw [if_pos (by decide +kernel)]; kernel_rfl) | (rw [if_neg (by decide +kernel)]; exact ⟨rfl, rfl⟩))
    (fun os started H enc _ => lifted os started H enc)
theorem proved : Rows.BagVoidsSaid := over
end Go.Proofs.Ytmgdnffniafbkaa.bagVoids
