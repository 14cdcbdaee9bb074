/- BagOnce: with nothing lost each message comes just as often as it was sent and doubled, from whom sent it, to whom it was sent, as it was, in whatever order they are taken. No conditions. -/
import Derived.Test.YtdoopajomleopaaRows
import Derived.Test.YtdoopajomleopaaAwake05
import Derived.Test.YtdoopajomleopaaOps05
import Derived.Test.YtdoopajomleopaaApp05
import Derived.Deep.RegionHeld3
namespace Go.Proofs.Ytdoopajomleopaa.bagOnce
open Go.RowKit Go.ChangeShapes Go.WideShapes Go.ChangeAt
open Go.ChangeMaps (open_string shut_string)

theorem row_shape {w : World} {size : Nat} {v : Value} {n : Nat} {xs : List Value} (h : Row w size v n xs) : ∃ A c, v = .slice A n c := by
  rcases h.is with ⟨rfl, rfl⟩ | ⟨g, off, cap, rfl, _⟩
  · exact ⟨none, 0, rfl⟩
  · exact ⟨_, _, rfl⟩
set_option maxRecDepth 100000 in
set_option maxHeartbeats 4000000 in
theorem walk (x0 : Option Addr) (len0 cap0 : Nat) (vs : Nat → OpV) (x1 : Option Addr) (len1 cap1 : Nat) (zs : List Int) (W : World) (hops : IsOps W x0 len0 vs) (_ : len0 ≤ cap0) (hints : IsInts .i64 W x1 len1 zs) :
    Calls Try.prog 4 #[.slice x0 len0 cap0, .slice x1 len1 cap1] W fun e W' => e = .returned (.bool true) ∧ Below W.heap.size W W' := by
  have hmax : len0 ≤ 9223372036854775807 := by have := hops.max; unfold maxLen at this; omega
  have hmax1 : len1 ≤ 9223372036854775807 := by have := hints.max; unfold maxLen at this; omega
  have Hops := Lib.hid hops
  have Hints := Lib.hid hints
  have Hw0 : Hid ((Lit.int .i64 0).wf = true) := Lib.hid (by decide)
  obtain ⟨i0, hi0, hz0, hz1, hz2⟩ := info_parts infoP
  have Hi := Lib.hid hi0
  have Hz0 := Lib.hid hz0
  have Hz1 := Lib.hid hz1
  have Hz2 := Lib.hid hz2
  clear hi0 hz0 hz1 hz2 hops hints
  go_enter Try.func4, Try.ntmps4
  go_wp2_with fail
  refine (awake_any _).mono ?_
  rintro e w2 ⟨rfl, hb2⟩
  have Hb2 := Lib.hid hb2
  clear hb2
  go_wp2_with fail
  refine (New_own W Hb2.out).mono ?_
  rintro e w3 ⟨b, rfl, h3, _⟩
  have H3 := Lib.hid h3
  clear h3
  go_wp2
  go_loopw [7, 8] (fun v i wr => ∃ (n : Nat) (s : NS) (S : List Pcl), i = .int .i64 (n : Int) ∧ n ≤ len0 ∧ n ≤ 30 ∧ Hid (BesideP W wr b s v S) ∧ Hid (SameAs S s) ∧ Hid (S.length ≤ 2 * n)) (fun _ i _ => 30 - (intOf i).toNat)
  case atStart => exact ⟨0, NS.none, [], rfl, Nat.zero_le _, by omega, Lib.hid (BesideP.start H3.out), Lib.hid SameAs.none, Lib.hid (Nat.le_refl _)⟩
  case round =>
    obtain ⟨n, s, S, rfl, hn, hn30, HB, HPm, HSl⟩ := hrel
    obtain ⟨av, cap, hv⟩ := HB.out.slice
    subst hv
    obtain ⟨m, Hm⟩ : ∃ m, Hid (S.length = m) := ⟨_, Lib.hid rfl⟩
    rw [Hm.out] at HB HSl ⊢
    have hm60 : m ≤ 60 := by have := HSl.out; omega
    have Hsum : Hid (sum s 64 = m) := Lib.hid (by rw [HPm.out.sum]; exact Hm.out)
    by_cases hlt : n < len0 ∧ n < 30
    · obtain ⟨hlt1, hlt2⟩ := hlt
      obtain ⟨bo, off, rfl, hcW⟩ := Hops.out.cells (by omega)
      have HopW : Hid (∀ u, Below W.heap.size W u → OpAt u bo (off + n * 5) (vs n)) := Lib.hid fun u hu => (hcW n hlt1).below (lt_of_cell (hcW n hlt1).kind) hu
      have HboW : Hid (bo < W.heap.size) := Lib.hid (lt_of_cell (hcW n hlt1).kind)
      clear hcW
      have hop := HopW.out _ HB.out.own.below
      obtain ⟨y, Hy⟩ : ∃ y, Hid ((vs n).body = y) := ⟨_, Lib.hid rfl⟩
      obtain ⟨fr, Hfr⟩ : ∃ fr, Hid ((vs n).frm = fr) := ⟨_, Lib.hid rfl⟩
      obtain ⟨tt, Htt⟩ : ∃ tt, Hid ((vs n).to = tt) := ⟨_, Lib.hid rfl⟩
      obtain ⟨kd, Hkd⟩ : ∃ kd, Hid ((vs n).kind = kd) := ⟨_, Lib.hid rfl⟩
      have cb := hop.body
      have cf := hop.frm
      have ct := hop.to
      have hbl := hop.wbody
      rw [Hy.out] at cb hbl
      rw [Hfr.out] at cf
      rw [Htt.out] at ct
      have Hbl := Lib.hid hbl
      obtain ⟨z, Hz⟩ : ∃ z, Hid (y.take 60 = z) := ⟨_, Lib.hid rfl⟩
      have hz60 : z.length ≤ 60 := by rw [← Hz.out]; simp; omega
      obtain ⟨fk, Hfk, hfk⟩ := and_small fr 7 (.inr rfl)
      obtain ⟨tk, Htk, htk⟩ := and_small tt 7 (.inr rfl)
      have hfv := Hfk.out
      have htv := Htk.out
      rw [show ((7 : Nat) : Int) = 7 from rfl] at hfv htv
      have hbo : bo < wr.heap.size := lt_of_cell cb
      have Hkeep : Hid (∀ u, Below wr.heap.size wr u → u.cell? ⟨bo, off + n * 5 + 1, none⟩ = some (.int .i64 fr) ∧ u.cell? ⟨bo, off + n * 5 + 2, none⟩ = some (.int .i64 tt) ∧ u.cell? ⟨bo, off + n * 5 + 4, none⟩ = some (.string (str y))) := Lib.hid fun u hu =>
        ⟨(hu.cell (p := ⟨bo, off + n * 5 + 1, none⟩) hbo).trans cf, (hu.cell (p := ⟨bo, off + n * 5 + 2, none⟩) hbo).trans ct, (hu.cell (p := ⟨bo, off + n * 5 + 4, none⟩) hbo).trans cb⟩
      clear hop hbl
      have hsh : ∀ u, Calls Try.prog 16 #[.string (str y), .int .i64 60] u fun e w' => e = .returned (.string (str z)) ∧ u = w' := fun u => by
        have := short_any y Hbl.out 60 u
        rw [Hz.out] at this
        exact this
      have Hsh := Lib.hid hsh
      clear hsh
      go_wp2_with fail
      go_region_held3 (fun u => Below wr.heap.size wr u ∧ u.cell? ⟨bo, off + n * 5 + 1, none⟩ = some (.int .i64 fr) ∧ u.cell? ⟨bo, off + n * 5 + 2, none⟩ = some (.int .i64 tt) ∧ u.cell? ⟨bo, off + n * 5 + 4, none⟩ = some (.string (str y)))
        (first | exact ⟨Below.refl _ _, Hkeep.out _ (Below.refl _ _)⟩ | exact ⟨(Below.refl _ _).drew, Hkeep.out _ (Below.refl _ _).drew⟩ | exact ⟨((Below.refl _ _).alloc (Nat.le_refl _) _).drew, Hkeep.out _ ((Below.refl _ _).alloc (Nat.le_refl _) _).drew⟩)
        (first | (go_at_call 16; refine (Hsh.out _).mono ?_; rintro e wc ⟨rfl, rfl⟩))
      all_goals
        clear cf ct cb hfv htv
        obtain ⟨u1, Hu1⟩ : ∃ u1, Hid ((wr.alloc (.cells #[.int .i64 (fk : Int), .int .i64 (tk : Int), .string (str z)] 35)).drew = u1) := ⟨_, Lib.hid rfl⟩
        obtain ⟨P, HP⟩ : ∃ P, Hid (wr.heap.size = P) := ⟨_, Lib.hid rfl⟩
        have HB3 : Hid (Boxed3 u1 P 35 (.int .i64 (fk : Int)) (.int .i64 (tk : Int)) (.string (str z))) := Lib.hid (by rw [← Hu1.out, ← HP.out]; exact Boxed3.new wr _ _ _ _)
        have Hbl1 : Hid (Below wr.heap.size wr u1) := Lib.hid (by rw [← Hu1.out]; exact ((Below.refl _ _).alloc (Nat.le_refl _) _).drew)
        have HvP : Hid (∀ g, blk (.slice av m cap) = some g → g < P) := Lib.hid (fun g hg => by rw [← HP.out]; exact HB.out.row.blk_lt hg)
        have HO1 : Hid (Own W u1 b s (fun g => blk (.slice av m cap) = some g ∨ g = P)) := Lib.hid (by
          rw [← Hu1.out, ← HP.out]
          exact (HB.out.own.alloc _).later ((Below.refl _ _).drew))
        have HWP : Hid (W.heap.size ≤ P) := Lib.hid (by rw [← HP.out]; exact HB.out.own.below.size)
        have Hzl : Hid (z.length ≤ 9223372036854775807) := Lib.hid (by omega)
        have HB1 := Lib.hid (HB.out.later Hbl1.out)
        by_cases heq : fk = tk
        · subst heq
          obtain ⟨s1, s2⟩ := sent_self s fk z
          have S1 := Lib.hid s1
          have S2 := Lib.hid s2
          clear s1 s2
          go_wp2_with fail
          rw [Hu1.out, HP.out]
          refine (Send_own HO1.out fk fk z Hzl.out).mono ?_
          rw [S1.out, S2.out]
          rintro e w5 ⟨rfl, h5, m5⟩
          have H5 : Hid (BesideP W w5 b s (.slice av m cap) S) := Lib.hid ⟨h5.weak (fun _ h => .inl h), m5.row HB1.out.row (fun _ h => .inl h), HB1.out.new⟩
          have d0 := (m5.cell (q := P) (o := 0) (.inr rfl) HB3.out.lt).trans HB3.out.cell0
          have d1 := (m5.cell (q := P) (o := 1) (.inr rfl) HB3.out.lt).trans HB3.out.cell1
          clear h5 m5
          go_wp2
          go_roundw
          case rel => exact ⟨n + 1, s, S, by go_num, by omega, by omega, H5, HPm, Lib.hid (by have := HSl.out; have := Hm.out; omega)⟩
          case measure => simp [intOf]; omega
        · have hfne : ((fk : Int) != (tk : Int)) = true := bne_yes (by omega)
          obtain ⟨s1, s2, s3⟩ := sent_room (s := s) (i := fk) (j := tk) (by omega) (by omega) heq (z := z) (by omega) (by rw [Hsum.out]; omega)
          have S1 := Lib.hid s1
          have S2 := Lib.hid s2
          have Heq := Lib.hid heq
          obtain ⟨S', HS'⟩ : ∃ S', Hid (sendS s fk tk z = S') := ⟨_, Lib.hid rfl⟩
          have HP1 : Hid (SameAs (S ++ [((fk : Int), (tk : Int), z)]) S') := Lib.hid (by
            rw [← HS'.out, S2.out]
            exact HPm.out.sent (by omega) (by omega) z)
          clear s1 s2 s3 heq
          go_wp2_with fail
          rw [Hu1.out, HP.out]
          refine (Send_own HO1.out fk tk z Hzl.out).mono ?_
          rw [S1.out, HS'.out]
          rintro e w5 ⟨rfl, h5, m5⟩
          have H5 : Hid (BesideQ W w5 b S' (.slice av m cap) S P ((fk : Int), (tk : Int), z)) := Lib.hid ⟨h5, m5.row HB1.out.row (fun _ h => .inl h), HB1.out.new, fun h => Nat.lt_irrefl _ (HvP.out _ h), HWP.out, HB3.out.kept m5 (fun hn => hn.2 (.inr rfl))⟩
          have d0 := H5.out.box.cell0
          have d1 := H5.out.box.cell1
          have d2 := H5.out.box.cell2
          clear h5 m5
          have Hrow5 : Hid (Row (w5.alloc (.cells #[.int .i64 (fk : Int), .int .i64 (tk : Int), .string (str z)] 35)) 3 (.slice av m cap) m (pc S)) := Lib.hid (by
            have h := (H5.out.later ((Below.refl _ w5).alloc (Nat.le_refl _) (.cells #[.int .i64 (fk : Int), .int .i64 (tk : Int), .string (str z)] 35))).row
            rw [Hm.out] at h
            exact h)
          have Hc3 : Hid (m + 1 ≤ maxLen) := Lib.hid (by unfold maxLen; omega)
          have Hc4 : Hid ((m + 1) * 32 ≤ 140737488355328) := Lib.hid (by omega)
          have Hd3 : Hid (m + 1 + 1 ≤ maxLen) := Lib.hid (by unfold maxLen; omega)
          have Hd4 : Hid ((m + 1 + 1) * 32 ≤ 140737488355328) := Lib.hid (by omega)
          by_cases hk2 : kd.tmod 2 = 0
          · have hkb : (kd.tmod 2 == 0) = true := beq_yes hk2
            obtain ⟨m0, Hm0⟩ : ∃ m0, Hid ((s (8 * fk + tk)).length = m0) := ⟨_, Lib.hid rfl⟩
            have hm0 : m0 ≤ 60 := by
              have h1 := le_sum s 64 (k := 8 * fk + tk) (by omega)
              rw [Hsum.out, Hm0.out] at h1
              omega
            obtain ⟨t1, t2, t3⟩ := dbl_last (s := s) (i := fk) (j := tk) (by omega) (by omega) Heq.out z (by rw [Hm0.out]; omega)
            have HP2 : Hid (SameAs (S ++ [((fk : Int), (tk : Int), z)] ++ [((fk : Int), (tk : Int), z)]) (dbS S' fk tk (m0 : Int))) := Lib.hid (by
              rw [← HS'.out, S2.out]
              rw [Hm0.out] at t3
              rw [t3]
              have h1 := HP1.out
              rw [← HS'.out, S2.out] at h1
              exact h1.sent (by omega) (by omega) z)
            rw [← S2.out, HS'.out] at t1 t2
            rw [Hm0.out] at t1
            obtain ⟨S2', HS2'⟩ : ∃ S2', Hid (dbS S' fk tk (m0 : Int) = S2') := ⟨_, Lib.hid rfl⟩
            rw [HS2'.out] at HP2
            obtain ⟨Mn, HMn⟩ : ∃ Mn, Hid ((onL S' fk tk).length = Mn) := ⟨_, Lib.hid rfl⟩
            have hMn : Mn = m0 + 1 := by rw [← HMn.out]; exact t1
            have T2 := Lib.hid t2
            have hsub : IntKind.i64.wrap (m0 : Int) = (m0 : Int) := by rw [IntWalk.i64_in _ (by omega)]
            have Hsub := Lib.hid hsub
            have Hwm : Hid ((Lit.int .i64 (m0 : Int)).wf = true) := Lib.hid (WalkArith.wf_i64 (by omega))
            clear t1 t2 t3 hk2 hsub
            go_wp2_with (at_builtin; refine wpList_append_row _ rfl (.tmp 70) (.tmp 72) 27 rfl Hrow5.out 35 i0 (.agg #[.int .i64 0, .int .i64 0, .string ByteArray.empty]) 32 Try.underlying27 Hi.out Hz0.out Hz1.out Hz2.out rfl (by decide) rfl ⟨w5.heap.size, 0, none⟩ 1 1 (pc1 ((fk : Int), (tk : Int), z)) rfl rfl (pc_at w5 ((fk : Int), (tk : Int), z) _) (pc_one' _) (by decide) Hc3.out Hc4.out ?_; intro q6 cap6 w6 hr6 hm6 hb6; have H6 := Lib.hid (H5.out.more (v' := .slice (some q6) (m + 1) cap6) (by rw [Hm.out]; exact hr6) hm6 hb6); clear hr6 hm6 hb6; have g60 := H6.out.box.cell0; have g61 := H6.out.box.cell1; have g62 := H6.out.box.cell2; have ck6 := (HopW.out _ H6.out.own.below).kind; rw [Hkd.out] at ck6)
            go_region_held3 (fun u => u.cell? ⟨P, 0, none⟩ = some (.int .i64 (fk : Int)) ∧ u.cell? ⟨P, 1, none⟩ = some (.int .i64 (tk : Int)))
              (first | exact ⟨g60, g61⟩ | exact ⟨g70, g71⟩)
              (first
                | (go_at_call 22; refine (Waits_own (H6.out.own.later (Below.refl _ _).drew) fk tk).mono ?_; rw [HMn.out]; rintro e wc ⟨rfl, rfl⟩)
                | (go_at_call 12; rw [Hsub.out]; refine (Double_own (H6.out.own.later (Below.refl _ _).drew) fk tk Hwm.out).mono ?_; rw [T2.out, HS2'.out]; rintro e w7 ⟨rfl, h7, m7⟩; have H7 := Lib.hid ((H6.out.later (Below.refl _ _).drew).left h7 m7); have g70 := H7.out.box.cell0; have g71 := H7.out.box.cell1; clear h7 m7))
            all_goals
              have e0 := H7.out.box.cell0
              have e1 := H7.out.box.cell1
              have e2 := H7.out.box.cell2
              have Hrow7 : Hid (Row (w7.alloc (.cells #[.int .i64 (fk : Int), .int .i64 (tk : Int), .string (str z)] 35)) 3 (.slice (some q6) (m + 1) cap6) (m + 1) (pc (S ++ [((fk : Int), (tk : Int), z)]))) := Lib.hid (by
                have h := (H7.out.later ((Below.refl _ w7).alloc (Nat.le_refl _) (.cells #[.int .i64 (fk : Int), .int .i64 (tk : Int), .string (str z)] 35))).row
                rw [List.length_append, Hm.out] at h
                exact h)
              go_wp2_with (at_builtin; refine wpList_append_row _ rfl (.tmp 95) (.tmp 97) 27 rfl Hrow7.out 35 i0 (.agg #[.int .i64 0, .int .i64 0, .string ByteArray.empty]) 32 Try.underlying27 Hi.out Hz0.out Hz1.out Hz2.out rfl (by decide) rfl ⟨w7.heap.size, 0, none⟩ 1 1 (pc1 ((fk : Int), (tk : Int), z)) rfl rfl (pc_at w7 ((fk : Int), (tk : Int), z) _) (pc_one' _) (by decide) Hd3.out Hd4.out ?_; intro q8 cap8 w8 hr8 hm8 hb8; have H8 := Lib.hid (H7.out.more (v' := .slice (some q8) (m + 1 + 1) cap8) (by rw [List.length_append, Hm.out]; exact hr8) hm8 hb8); clear hr8 hm8 hb8)
              go_roundw
              case rel => exact ⟨n + 1, S2', S ++ [((fk : Int), (tk : Int), z)] ++ [((fk : Int), (tk : Int), z)], by go_num, by omega, by omega, Lib.hid H8.out.plain, HP2, Lib.hid (by have := HSl.out; have := Hm.out; simp; omega)⟩
              case measure => simp [intOf]; omega
          · have hkb : (kd.tmod 2 == 0) = false := beq_no hk2
            clear hk2
            go_wp2_with (at_builtin; refine wpList_append_row _ rfl (.tmp 70) (.tmp 72) 27 rfl Hrow5.out 35 i0 (.agg #[.int .i64 0, .int .i64 0, .string ByteArray.empty]) 32 Try.underlying27 Hi.out Hz0.out Hz1.out Hz2.out rfl (by decide) rfl ⟨w5.heap.size, 0, none⟩ 1 1 (pc1 ((fk : Int), (tk : Int), z)) rfl rfl (pc_at w5 ((fk : Int), (tk : Int), z) _) (pc_one' _) (by decide) Hc3.out Hc4.out ?_; intro q6 cap6 w6 hr6 hm6 hb6; have H6 := Lib.hid (H5.out.more (v' := .slice (some q6) (m + 1) cap6) (by rw [Hm.out]; exact hr6) hm6 hb6); clear hr6 hm6 hb6; have g60 := H6.out.box.cell0; have g61 := H6.out.box.cell1; have g62 := H6.out.box.cell2; have ck6 := (HopW.out _ H6.out.own.below).kind; rw [Hkd.out] at ck6)
            go_roundw
            case rel => exact ⟨n + 1, S', S ++ [((fk : Int), (tk : Int), z)], by go_num, by omega, by omega, Lib.hid H6.out.plain, HP1, Lib.hid (by have := HSl.out; have := Hm.out; simp; omega)⟩
            case measure => simp [intOf]; omega
    · have hway : (decide (n < len0) = false) ∨ (decide (n < len0) = true ∧ decide ((n : Int) < 30) = false) := by
        by_cases h : n < len0
        · exact .inr ⟨by simpa using h, by simp; omega⟩
        · exact .inl (by simpa using h)
      clear hlt
      rcases hway with hw1 | ⟨hw1, hw2⟩
      all_goals
        go_wp2
        go_loopw [7, 11] (fun vr i wr2 => ∃ (k : Nat) (s' : NS) (S' : List Pcl), i = .int .i64 (k : Int) ∧ k ≤ m ∧ Hid (k + S'.length = m) ∧ Hid (BesideP W wr2 b s' vr S') ∧ Hid (SameAs S' s')) (fun _ i _ => m - (intOf i).toNat)
        case atStart => exact ⟨0, s, S, rfl, Nat.zero_le _, Lib.hid (by rw [Hm.out]; omega), HB, HPm⟩
        case round =>
          obtain ⟨k, s', S', rfl, hk, HkS, HB', HP'⟩ := hrel
          obtain ⟨ar, capr, hvr⟩ := HB'.out.slice
          subst hvr
          obtain ⟨rl, Hrl⟩ : ∃ rl, Hid (S'.length = rl) := ⟨_, Lib.hid rfl⟩
          rw [Hrl.out] at HB' HkS ⊢
          have hkm := HkS.out
          have Hsm : Hid (sum s' 64 = rl) := Lib.hid (by rw [HP'.out.sum]; exact Hrl.out)
          by_cases hk2 : k < m
          · have hrl0 : 0 < rl := by omega
            have hs0 : Hid (0 < sum s' 64) := Lib.hid (by rw [Hsm.out]; exact hrl0)
            have hkx : (k < len1 ∧ ∃ bi oi X, x1 = some ⟨bi, oi, none⟩ ∧ wr.cell? ⟨bi, oi + k, none⟩ = some (.int .i64 X) ∧ Hid ((Lit.int .i64 X).wf = true)) ∨ (¬ k < len1) := by
              by_cases h : k < len1
              · obtain ⟨bi, oi, e, hc⟩ := Hints.out.cells (by omega)
                exact .inl ⟨h, bi, oi, zs.getD k 0, e, (HB'.out.own.below.cell (p := ⟨bi, oi + k, none⟩) (lt_of_cell (hc k h))).trans (hc k h), Lib.hid (Hints.out.wf _ (by rw [List.getD, List.getElem?_eq_getElem (by rw [Hints.out.length]; exact h)]; exact List.getElem_mem _))⟩
              · exact .inr h
            rcases hkx with ⟨hkx, bi, oi, X, rfl, hcx, HwX⟩ | hkx
            all_goals
              go_wp2_with fail
              refine (Any_own HB'.out.own (by first | exact HwX.out | exact Hw0.out) hs0.out).mono ?_
              rintro e w5 ⟨kk, j, hkk, hj, _, he, h5, m5⟩
              obtain ⟨p, Hp⟩ : ∃ p, Hid (pAtN kk (nth (s' kk) j) = p) := ⟨_, Lib.hid rfl⟩
              have hpv : pV kk (nth (s' kk) j) = .agg #[.int .i64 p.1, .int .i64 p.2.1, .string (str p.2.2)] := by rw [← Hp.out]; simp [pV, pAtN]
              rw [hpv] at he
              subst he
              have hT := HP'.out.took hkk hj
              rw [Hp.out] at hT
              obtain ⟨s2, Hs2⟩ : ∃ s2, Hid (s'.put kk ((s' kk).eraseIdx j) = s2) := ⟨_, Lib.hid rfl⟩
              rw [Hs2.out] at hT h5
              have HT := Lib.hid hT
              have H5 : Hid (BesideP W w5 b s2 (.slice ar rl capr) S') := Lib.hid (HB'.out.left h5 m5)
              clear h5 m5 hT hpv hj hkk
              obtain ⟨g, off, capr', hvr, _⟩ := H5.out.cells (i := 0) (by rw [Hrl.out]; exact hrl0)
              rw [Hrl.out] at hvr
              injection hvr with ea _ ec
              subst ea ec
              go_wp2_with fail
              obtain ⟨u6, Hu6⟩ : ∃ u6, Hid (w5.alloc (.cells #[.int .i64 p.1, .int .i64 p.2.1, .string (str p.2.2)] 35) = u6) := ⟨_, Lib.hid rfl⟩
              obtain ⟨P, HPp⟩ : ∃ P, Hid (w5.heap.size = P) := ⟨_, Lib.hid rfl⟩
              have H6 : Hid (BesideP W u6 b s2 (.slice (some ⟨g, off, none⟩) rl capr) S') := Lib.hid (by rw [← Hu6.out]; exact H5.out.later ((Below.refl _ w5).alloc (Nat.le_refl _) _))
              have HX : Hid (Boxed3 u6 P 35 (.int .i64 p.1) (.int .i64 p.2.1) (.string (str p.2.2))) := Lib.hid (by rw [← Hu6.out, ← HPp.out]; exact Boxed3.new w5 _ _ _ _)
              rw [Hu6.out, HPp.out]
              go_loopw [15, 16] (fun at' i wr3 => ∃ jj : Nat, i = .int .i64 (jj : Int) ∧ jj ≤ rl ∧ Hid (∃ q, wr3 = u6.drewN q) ∧ ((at' = .int .i64 (-1) ∧ Hid (∀ a (ha : a < S'.length), a < jj → S'[a] ≠ p)) ∨ ∃ a : Nat, at' = .int .i64 (a : Int) ∧ a < jj ∧ Hid (∃ ha : a < S'.length, S'[a] = p))) (fun _ i _ => rl - (intOf i).toNat)
              case atStart => exact ⟨0, rfl, Nat.zero_le _, Lib.hid ⟨0, rfl⟩, .inl ⟨rfl, Lib.hid (fun a ha h => absurd h (Nat.not_lt_zero _))⟩⟩
              case round =>
                obtain ⟨jj, rfl, hjj, HQ, hat⟩ := hrel
                obtain ⟨q, rfl⟩ := HQ.out
                by_cases hj2 : jj < rl
                · rcases hat with ⟨rfl, HA⟩ | ⟨a, rfl, haj, Ha⟩
                  · obtain ⟨g', off', c', e', _, a0, a1, a2⟩ := H6.out.cells (i := jj) (by rw [Hrl.out]; exact hj2)
                    rw [Hrl.out] at e'
                    injection e' with e1 _ e3
                    injection e1 with e1
                    injection e1 with e1 e2
                    subst e1 e2 e3
                    obtain ⟨r, Hr⟩ : ∃ r, Hid (S'[jj]'(by rw [Hrl.out]; exact hj2) = r) := ⟨_, Lib.hid rfl⟩
                    rw [Hr.out] at a0 a1 a2
                    have d0 := HX.out.cell0
                    have d1 := HX.out.cell1
                    have d2 := HX.out.cell2
                    by_cases hrp : r = p
                    · have E : ∀ w, (binOp .eql 35 (.agg #[.int .i64 r.1, .int .i64 r.2.1, .string (str r.2.2)]) (.agg #[.int .i64 p.1, .int .i64 p.2.1, .string (str p.2.2)])).run Try.prog w = .ok (.bool true) w := fun w => by rw [eql_parcel, (pcl_eq r p).2 hrp]
                      have Hrp := Lib.hid hrp
                      clear hrp
                      go_wp2
                      go_region
                      clear E
                      go_wp2
                      go_roundw
                      case rel => exact ⟨jj + 1, by go_num, by omega, Lib.hid ⟨q + 1, rfl⟩, .inr ⟨jj, rfl, by omega, Lib.hid ⟨by rw [Hrl.out]; exact hj2, by rw [Hr.out]; exact Hrp.out⟩⟩⟩
                      case measure => simp [intOf]; omega
                    · have E : ∀ w, (binOp .eql 35 (.agg #[.int .i64 r.1, .int .i64 r.2.1, .string (str r.2.2)]) (.agg #[.int .i64 p.1, .int .i64 p.2.1, .string (str p.2.2)])).run Try.prog w = .ok (.bool false) w := fun w => by rw [eql_parcel, Bool.eq_false_iff.2 (fun h => hrp ((pcl_eq r p).1 h))]
                      have Hrp := Lib.hid hrp
                      clear hrp
                      go_wp2
                      go_region
                      clear E
                      go_wp2
                      go_roundw
                      case rel => exact ⟨jj + 1, by go_num, by omega, Lib.hid ⟨q + 1, rfl⟩, .inl ⟨rfl, Lib.hid (fun a ha h => by
                        rcases Nat.lt_or_ge a jj with h1 | h1
                        · exact HA.out a ha h1
                        · obtain rfl : a = jj := by omega
                          rw [Hr.out]; exact Hrp.out)⟩⟩
                      case measure => simp [intOf]; omega
                  · obtain ⟨z, Hz⟩ : ∃ z : Int, Hid ((a : Int) = z) := ⟨_, Lib.hid rfl⟩
                    have hneg : decide (z < 0) = false := by rw [← Hz.out]; simp
                    rw [Hz.out]
                    go_wp2
                    go_region
                    go_wp2
                    go_roundw
                    case rel => exact ⟨jj + 1, by go_num, by omega, Lib.hid ⟨q + 1, rfl⟩, .inr ⟨a, by rw [Hz.out], by omega, Ha⟩⟩
                    case measure => simp [intOf]; omega
                · obtain rfl : rl = jj := by omega
                  rcases hat with ⟨rfl, HA⟩ | ⟨a, rfl, haj, Ha⟩
                  · obtain ⟨a, ha, e⟩ := HT.out.1
                    exact absurd e (HA.out a ha (by have := Hrl.out; omega))
                  · have hneg : ¬ ((a : Int) < 0) := by omega
                    obtain ⟨ha, hae⟩ := Ha.out
                    have HS9 := Lib.hid (HT.out.2 a ha hae)
                    have B7 := Lib.hid (H6.out.later (below_drewN u6 q))
                    have hR7 := B7.out
                    rw [← Hrl.out] at hR7
                    obtain ⟨hca, hcm, hcc⟩ := hR7.rowCells
                    have hpA := Lib.hid (part_cells hcc a).1
                    have hpB := Lib.hid ((part_cells hcc (a + 1)).2 (by omega))
                    have har : a < rl := haj
                    have hcap : rl ≤ capr := by rw [← Hrl.out]; exact hca
                    clear hcc hR7
                    have Hc3 : Hid (0 + a ≤ maxLen) := Lib.hid (by unfold maxLen; omega)
                    have Hc4 : Hid ((0 + a) * 32 ≤ 140737488355328) := Lib.hid (by omega)
                    have Hd3 : Hid (a + (rl - (a + 1)) ≤ maxLen) := Lib.hid (by unfold maxLen; omega)
                    have Hd4 : Hid ((a + (rl - (a + 1))) * 32 ≤ 140737488355328) := Lib.hid (by omega)
                    have HlA : Hid ((pc (S'.take a)).length = a * 3) := Lib.hid (by rw [pc_length, List.length_take, Nat.min_eq_left (by omega)])
                    have HlB : Hid ((pc (S'.drop (a + 1))).length = (rl - (a + 1)) * 3) := Lib.hid (by rw [pc_length, List.length_drop, Hrl.out])
                    have Hg : Hid (g < (u6.drewN q).heap.size) := Lib.hid (B7.out.row.blk_lt rfl)
                    have Hway : Hid ((capr = a + 1 ∧ rl - (a + 1) = 0) ∨ capr ≠ a + 1) := Lib.hid (by omega)
                    have Hlen : Hid (k + 1 + (S'.eraseIdx a).length = m) := Lib.hid (by rw [List.length_eraseIdx, if_pos ha, Hrl.out]; omega)
                    have Hn2 : Hid (a + (rl - (a + 1)) = (S'.eraseIdx a).length) := Lib.hid (by rw [List.length_eraseIdx, if_pos ha, Hrl.out]; omega)
                    have hrb : rl ≤ 60 := by omega
                    clear hkm
                    rcases Hway.out with ⟨hc0, hz0⟩ | hc0
                    · subst hc0
                      have Hz0' := Lib.hid hz0
                      clear hz0
                      have HBn : Hid (pc (S'.drop (a + 1)) = []) := Lib.hid (List.eq_nil_of_length_eq_zero (by rw [HlB.out, Hz0'.out]))
                      have He3 : Hid (a + 0 ≤ maxLen) := Lib.hid (by unfold maxLen; omega)
                      have He4 : Hid ((a + 0) * 32 ≤ 140737488355328) := Lib.hid (by omega)
                      go_wp2_with (first
                        | (at_builtin; refine wpList_append_any _ rfl (.tmp 139) (.tmp 142) 27 rfl (row_nil (u6.drewN q) 3) 35 i0 (.agg #[.int .i64 0, .int .i64 0, .string ByteArray.empty]) 32 Try.underlying27 Hi.out Hz0.out Hz1.out Hz2.out rfl (by decide) rfl ⟨g, off, none⟩ a _ (pc (S'.take a)) rfl HlA.out hpA.out (pc_all' _) Hc3.out Hc4.out ?_; intro v7 w7 hr7 hm7 hb7; obtain ⟨A7, c7, e7⟩ := row_shape hr7; subst e7; simp only [Nat.zero_add, List.nil_append] at hr7 hb7 ⊢; have R7 := Lib.hid hr7; have M7 := Lib.hid hm7; have K7 := Lib.hid hb7; clear hr7 hm7 hb7)
                        | (at_builtin; refine wpList_append_any _ rfl (.tmp 144) (.tmp 148) 27 rfl R7.out 35 i0 (.agg #[.int .i64 0, .int .i64 0, .string ByteArray.empty]) 32 Try.underlying27 Hi.out Hz0.out Hz1.out Hz2.out rfl (by decide) rfl ⟨g, off, none⟩ 0 _ [] rfl rfl (fun j u hu => by simp at hu) (by simp) He3.out He4.out ?_; intro v8 w8 hr8 hm8 hb8; have R8 := Lib.hid hr8; have M8 := Lib.hid hm8; have K8 := Lib.hid hb8; clear hr8 hm8 hb8))
                      go_roundw
                      case rel => exact ⟨k + 1, s2, S'.eraseIdx a, by go_num, by omega, Hlen, Lib.hid (B7.out.cut R7.out M7.out K7.out (n2 := a + 0) (by rw [HBn.out]; exact R8.out) M8.out K8.out (by have := Hn2.out; have := Hz0'.out; omega)), HS9⟩
                      case measure => simp [intOf]; omega
                    · go_wp2_with (first
                        | (at_builtin; refine wpList_append_any _ rfl (.tmp 139) (.tmp 142) 27 rfl (row_nil (u6.drewN q) 3) 35 i0 (.agg #[.int .i64 0, .int .i64 0, .string ByteArray.empty]) 32 Try.underlying27 Hi.out Hz0.out Hz1.out Hz2.out rfl (by decide) rfl ⟨g, off, none⟩ a _ (pc (S'.take a)) rfl HlA.out hpA.out (pc_all' _) Hc3.out Hc4.out ?_; intro v7 w7 hr7 hm7 hb7; obtain ⟨A7, c7, e7⟩ := row_shape hr7; subst e7; simp only [Nat.zero_add, List.nil_append] at hr7 hb7 ⊢; have R7 := Lib.hid hr7; have M7 := Lib.hid hm7; have K7 := Lib.hid hb7; have HpB : Hid (∀ (j : Nat) (u : Value), (pc (S'.drop (a + 1)))[j]? = some u → w7.cell? ((⟨g, off + (a + 1) * 3, none⟩ : Addr).add j) = some u) := Lib.hid (fun j u hu => by rw [add_plain, hm7.cell (p := ⟨g, off + (a + 1) * 3 + j, none⟩) Hg.out (fun h => by cases h), ← add_plain]; exact hpB.out j u hu); clear hr7 hm7 hb7)
                        | (at_builtin; refine wpList_append_any _ rfl (.tmp 144) (.tmp 148) 27 rfl R7.out 35 i0 (.agg #[.int .i64 0, .int .i64 0, .string ByteArray.empty]) 32 Try.underlying27 Hi.out Hz0.out Hz1.out Hz2.out rfl (by decide) rfl ⟨g, off + (a + 1) * 3, none⟩ (rl - (a + 1)) _ (pc (S'.drop (a + 1))) rfl HlB.out HpB.out (pc_all' _) Hd3.out Hd4.out ?_; intro v8 w8 hr8 hm8 hb8; have R8 := Lib.hid hr8; have M8 := Lib.hid hm8; have K8 := Lib.hid hb8; clear hr8 hm8 hb8))
                      go_roundw
                      case rel => exact ⟨k + 1, s2, S'.eraseIdx a, by go_num, by omega, Hlen, Lib.hid (B7.out.cut R7.out M7.out K7.out R8.out M8.out K8.out Hn2.out), HS9⟩
                      case measure => simp [intOf]; omega
          · have hrl0 : rl = 0 := by omega
            have Hs0 : Hid (sum s' 64 = 0) := Lib.hid (by rw [Hsm.out]; exact hrl0)
            go_wp2_with fail
            refine (AnyNone_own HB'.out.own 0 Hs0.out).mono ?_
            rintro e w5 ⟨he, h5, _⟩
            rw [show zeroP = Value.agg #[.int .i64 0, .int .i64 0, .string ByteArray.empty] from rfl] at he
            subst he
            have H5 := Lib.hid h5
            clear h5
            go_wp2_with fail
            refine (All_own (by first | exact H5.out.later ((Below.refl _ w5).alloc (Nat.le_refl _) _) | exact H5.out.later ((Below.refl _ w5).alloc (Nat.le_refl _) _).drew | exact H5.out)).mono ?_
            rintro e w6 ⟨va, rfl, hpa, hba⟩
            obtain ⟨a6, cap6, hva⟩ := hpa.slice
            subst hva
            have hl0 : (allN s' 64).length = 0 := by rw [all_sum]; exact Hs0.out
            rw [hl0]
            have hA : Below w5.heap.size w5 (w5.alloc (.cells #[.int .i64 0, .int .i64 0, .string ByteArray.empty] 35)) := (Below.refl _ _).alloc (Nat.le_refl _) _
            have H6 : Hid (Below W.heap.size W w6) := Lib.hid (H5.out.below.trans ((hA.mono H5.out.below.size).trans (hba.mono (Nat.le_trans H5.out.below.size hA.size))))
            clear hA
            clear hpa hba hl0
            go_wp2
            go_ret
            exact ⟨rfl, H6.out⟩
theorem own : ownKnob Try.prog.godebug = none := by kernel_rfl
theorem laidOut : laidOutB Try.prog = true := by kernel_rfl
set_option maxRecDepth 100000 in
theorem lifted (os : Os) (started : os.Started) (H : Type) (enc : TypeId × Value → H) :
    ReturnsInHanded {} Try.checked os 4 .any (Rows.bagOnceSpec.pre6 enc Try.prog Try.f4 Rows.bagOnceRow.domain false) (Rows.bagOnceSpec.post enc Try.prog Try.f4 false true false false) := by
  refine returnsInHanded_of_change (C := Try.checked) own started (by kernel_rfl) Try.func4
    (ChangeSpec.witness6 (enc := enc) (C := Try.checked) false ⟨#[], #[.slice none 0 0, .slice none 0 0], []⟩ 8 (by kernel_rfl) (by kernel_rfl) (by kernel_rfl) (by kernel_rfl)) ?_
  intro W base args ds gs before hval0 hW hcnd _
  have hval : ∀ (j : Nat) t v, Try.f4.params[j]? = some t → args[j]? = some v → Value.okWide Try.prog W .any base t v := hval0
  have hW' := hW
  obtain ⟨p, q, hA0, hV, rfl, hfz, hnd⟩ := hW
  have hA : DataW.TrodAll enc Try.prog W 0 (fun _ => true) true Try.f4.params.toList args.toList ds p := hA0
  rw [Try.params4] at hA hval
  obtain ⟨v0, vs0, d0, ds0, p0, q0, hargs, rfl, rfl, h0, r0⟩ := trodAll_cons hA
  obtain ⟨v1, vs1, d1, ds1, p1, q1, rfl, rfl, rfl, h1, r1⟩ := trodAll_cons r0
  obtain ⟨rfl, rfl, rfl⟩ := trodAll_nil r1
  obtain rfl : args = #[v0, v1] := by cases args; simp_all
  obtain ⟨x0, len0, cap0, a0, rfl, w0, y0⟩ := opens_ops (hval 0 22 v0 rfl rfl) h0
  obtain ⟨x1, len1, cap1, a1, rfl, w1⟩ := opens_ints Try.underlying46 Try.underlying3 (by kernel_rfl) (hval 1 46 v1 rfl rfl) h1
  clear hA0 hval0
  refine (walk x0 len0 cap0 a0 x1 len1 cap1 a1 W w0 y0 w1).mono fun e W' ⟨he, bel⟩ => ?_
  subst he
  exact ⟨_, rfl, law_post laidOut (by rw [Try.params4]; decide +kernel) rfl Try.underlying4 rfl hW' (fun _ => rfl) bel⟩
theorem over : Rows.bagOnceRow.holds Try.pinned (OpenSpec.ofChange Rows.bagOnceSpec) :=
  OpenClaim.holds_of_wide 4 Try.f4 rfl rfl rfl rfl rfl rfl rfl ⟨rfl, rfl, rfl, rfl, rfl⟩ rfl rfl rfl rfl rfl (by kernel_rfl) Try.func4 (by kernel_rfl)
    (of_decide_eq_true (by kernel_rfl)) (by unfold Func.isWrapper; first | (rw [if_pos (by decide +kernel)]; kernel_rfl) | (rw [if_neg (by decide +kernel)]; exact ⟨rfl, rfl⟩))
    (fun os started H enc _ => lifted os started H enc)
theorem proved : Rows.BagOnceSaid := over
end Go.Proofs.Ytdoopajomleopaa.bagOnce
