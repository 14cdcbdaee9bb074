/- A row into which a change is put is a row again: the change is in it once, and all others of other sectors are as they were. -/
import Derived.Test.YtgncmgchoogmpaaDoorJx11
import Derived.Test.YtgncmgchoogmpaaDoorMixY
import Derived.Test.YtgncmgchoogmpaaDoorMixY
namespace Go.Proofs.YtgncmgchoogmpaaDoor.journalPuts
open Go.RowKit Go.ChangeShapes Go.WideShapes Go.ChangeAt
open Go.ChangeMaps (open_string shut_string)

theorem eqC (a b : Ch) (w : World) : (binOp .eql 32 (.agg #[.int .i64 a.1, .string (str a.2)]) (.agg #[.int .i64 b.1, .string (str b.2)])).run Tryd.prog w = .ok (.bool (decide (a = b))) w := by
  have hu : Tryd.prog.underlying 32 = some (.struct (Tryd.prog.fieldsOf 32)) := by kernel_rfl
  have hp : Tryd.prog.stoodInHeld 32 = false := by kernel_rfl
  rw [run_eql_struct, run_equalIn_agg _ _ _ _ _ hu hp]
  simp [Program.fieldsOf, Tryd.underlying32, Tryd.underlying3, Tryd.underlying9, go_sem, part]
  obtain ⟨a1, a2⟩ := a
  obtain ⟨b1, b2⟩ := b
  by_cases h1 : a1 = b1
  · by_cases h2 : a2 = b2
    · simp [h1, h2]
    · simp [h1, h2]
  · simp [h1]
theorem put_facts {m : List Ch} (hm : rowB m = true) {c : Ch} (hc : okC c) :
    rowB (putV m c) = true ∧ (putV m c).countP (fun x => decide (x = c)) = 1 ∧ (∀ x ∈ m, x.1 ≠ c.1 → x ∈ putV m c) ∧ (putV m c).length + m.countP (fun x => decide (x.1 = c.1)) = m.length + 1 := by
  have h := hm
  rw [rowB_iff] at h
  obtain ⟨a, b, e, h1, h2, _, _, h5⟩ := putV_split h.2 c
  have z : ∀ (l : List Ch) (p : Ch → Bool), (∀ x ∈ l, p x = false) → l.countP p = 0 := fun l p hp => by
    rw [List.countP_eq_zero]
    intro x hx
    simp [hp x hx]
  have ea : a.countP (fun x => decide (x = c)) = 0 := z _ _ (fun x hx => by have := h1 x hx; simp; rintro rfl; omega)
  have eb : b.countP (fun x => decide (x = c)) = 0 := z _ _ (fun x hx => by have := h2 x hx; simp; rintro rfl; omega)
  have fa : a.countP (fun x => decide (x.1 = c.1)) = 0 := z _ _ (fun x hx => by have := h1 x hx; simp; omega)
  have fb : b.countP (fun x => decide (x.1 = c.1)) = 0 := z _ _ (fun x hx => by have := h2 x hx; simp; omega)
  refine ⟨putV_row hm hc, ?_, fun x hx hne => ?_, ?_⟩
  · rw [e, List.countP_append, List.countP_cons, ea, eb]
    simp
  · rw [e]
    rcases h5 with rfl | ⟨y, hy, rfl⟩
    · rcases List.mem_append.1 hx with hx | hx
      · exact List.mem_append.2 (.inl hx)
      · exact List.mem_append.2 (.inr (List.mem_cons_of_mem _ hx))
    · rcases List.mem_append.1 hx with hx | hx
      · exact List.mem_append.2 (.inl hx)
      · rcases List.mem_cons.1 hx with rfl | hx
        · exact absurd hy hne
        · exact List.mem_append.2 (.inr (List.mem_cons_of_mem _ hx))
  · rw [e]
    rcases h5 with rfl | ⟨y, hy, rfl⟩
    · rw [List.countP_append, fa, fb]
      simp
      omega
    · rw [List.countP_append, List.countP_cons, fa, fb]
      simp [hy]
/-- How often, so far. -/
def cntP (l : List Ch) (p : Ch → Bool) (i : Nat) : Nat := (l.take i).countP p
theorem cntP_succ {l : List Ch} {i : Nat} {x : Ch} (h : l[i]? = some x) (p : Ch → Bool) : cntP l p (i + 1) = cntP l p i + (if p x then 1 else 0) := by
  obtain ⟨hi, e⟩ := List.getElem?_eq_some_iff.1 h
  rw [cntP, List.take_succ_eq_append_getElem hi, e, List.countP_append, List.countP_singleton, cntP]
theorem cntP_all (l : List Ch) (p : Ch → Bool) (n : Nat) (h : l.length ≤ n) : cntP l p n = l.countP p := by rw [cntP, List.take_of_length_le h]
theorem cntP_le (l : List Ch) (p : Ch → Bool) (i : Nat) : cntP l p i ≤ l.length := by
  have h1 := List.countP_le_length (p := p) (l := l.take i)
  rw [List.length_take] at h1
  unfold cntP
  omega
set_option maxRecDepth 100000 in
set_option maxHeartbeats 4000000 in
theorem walk (x : Option Addr) (len cap : Nat) (l : List Sp) (o : Sp) (w : World) (hl : IsG w 3 encP x len l) (_ : ∀ s ∈ l, wfP s) (_ : wfP o) (hT : Tab w) :
    Calls Tryd.prog 6 #[.slice x len cap, .agg #[.int .i64 o.1, .int .u8 o.2.1, .bool o.2.2]] w fun e w' => e = .returned (.bool true) ∧ Below w.heap.size w w' := by
  have HT := Lib.hid hT
  have HL := Lib.hid hl
  clear hT hl
  obtain ⟨w0, HW0⟩ : ∃ x, Hid (w.alloc (.cells #[.int .i64 o.1, .int .u8 o.2.1, .bool o.2.2] 39) = x) := ⟨_, Lib.hid rfl⟩
  obtain ⟨p0, Hp0⟩ : ∃ x, Hid (w.heap.size = x) := ⟨_, Lib.hid rfl⟩
  have B0 : Hid (Below w.heap.size w w0) := Lib.hid (by rw [← HW0.out]; exact balloc (Below.refl _ _) _)
  have o0 : Hid (w0.cell? ⟨p0, 0, none⟩ = some (.int .i64 o.1)) := Lib.hid (by rw [← HW0.out, ← Hp0.out]; simp [go_sem])
  have o1 : Hid (w0.cell? ⟨p0, 1, none⟩ = some (.int .u8 o.2.1)) := Lib.hid (by rw [← HW0.out, ← Hp0.out]; simp [go_sem])
  obtain ⟨ms, Hms⟩ : ∃ y, Hid (bits .and .i64 o.1 65535 = y) := ⟨_, Lib.hid rfl⟩
  obtain ⟨S, HS⟩ : ∃ y, Hid (secS o.2.1 = y) := ⟨_, Lib.hid rfl⟩
  have hok : Hid (okC (ms, S)) := Lib.hid (by
    have := chOf_ok o
    rw [chOf, maskS, Hms.out, HS.out] at this
    exact this)
  go_enter Tryd.func6, Tryd.ntmps6
  go_wp2_with fail
  rw [HW0.out, Hp0.out]
  refine (awake_any _ (HT.out.below B0.out)).mono ?_
  rintro e w1 ⟨rfl, hb1⟩
  have B1 := Lib.hid (bnext B0.out hb1)
  have B01 := Lib.hid hb1
  clear hb1
  go_wp2_with fail
  refine (lrow_any x len cap l 20 (by omega) w1 (HL.out.below B1.out)).mono ?_
  rintro e w2 ⟨v2, rfl, r2, n2, hb2⟩
  have B2 := Lib.hid (bnext B1.out hb2)
  have B02 := Lib.hid (bnext B01.out hb2)
  obtain ⟨m, Hm⟩ : ∃ y, Hid (rowSp (l.take 20) = y) := ⟨_, Lib.hid rfl⟩
  have hmr : Hid (rowB m = true) := Lib.hid (by rw [← Hm.out]; exact rowSp_row _)
  have hml : Hid (m.length ≤ 20) := Lib.hid (by rw [← Hm.out]; have := rowSp_length (l.take 20); rw [List.length_take] at this; omega)
  rw [Hm.out] at r2
  have R2 := Lib.hid r2
  obtain ⟨f1, f2, f3, f4⟩ := put_facts hmr.out hok.out
  have F1 := Lib.hid f1
  have F2 := Lib.hid f2
  have F3 := Lib.hid f3
  have F4 := Lib.hid f4
  clear r2 n2 hb2 f1 f2 f3 f4
  go_upto_region 3 with fail
  go_cut [7] (fun s wx => ∃ p : Nat, s = .pointer (some ⟨p, 0, none⟩) ∧ Hid (ChAt wx p (ms, S)) ∧ Hid (Below w2.heap.size w2 wx))
  case first =>
    have q0 : ∀ y : In (Abv w2), y.u.cell? ⟨p0, 0, none⟩ = some (.int .i64 o.1) := fun y => ((bnext B02.out y.is).cell (p := ⟨p0, 0, none⟩) (lt_of_cell o0.out)).trans o0.out
    have q1 : ∀ y : In (Abv w2), y.u.cell? ⟨p0, 1, none⟩ = some (.int .u8 o.2.1) := fun y => ((bnext B02.out y.is).cell (p := ⟨p0, 1, none⟩) (lt_of_cell o1.out)).trans o1.out
    have hms := Hms.out
    go_wp2_with fail
    refine wp_region_mixY (by kernel_rfl) (Cls (Abv w2)) 7 [(0, 0), (1, 0), (2, 0), (3, 0), (4, 0), (5, 1), (6, 0)] [(8, 2)] (by kernel_rfl) (cls (Below.refl _ w2).drew) ?_
    repeat (refine mixY0 rfl (fun K hK => ?_); go_simp; refine hK _ ?_; clear hK K)
    refine mixY1 rfl rfl (fun K hK => ?_) (fun K hK => ?_)
    · go_simp
      obtain ⟨w3, HW3⟩ : ∃ y, Hid ((w2.alloc (.cells #[.int .i64 0, .string (str [])] 32)).drew = y) := ⟨_, Lib.hid rfl⟩
      obtain ⟨p, Hp⟩ : ∃ y, Hid (w2.heap.size = y) := ⟨_, Lib.hid rfl⟩
      have B3 : Hid (Below w2.heap.size w2 w3) := Lib.hid (by rw [← HW3.out]; exact (balloc (Below.refl _ _) _).drew)
      have K3 : Hid (ChAt w3 p (0, [])) := Lib.hid (by rw [← HW3.out, ← Hp.out]; exact (ChAt.new w2 (0, []) _).below (Below.refl _ _).drew)
      rw [HW3.out, Hp.out]
      refine hK _ _ (cls B3.out) ?_
      clear hK K
      refine mix1 rfl (fun K hK => ?_)
      go_simp
      refine (sector_any _ _).mono ?_
      rw [HS.out]
      rintro e w4 ⟨rfl, hb4⟩
      have B4 := Lib.hid (bnext B3.out hb4)
      have K4 := Lib.hid (K3.out.below hb4)
      clear hb4 q0 q1
      refine ⟨_, rfl, hK _ _ (cls B4.out) ?_⟩
      clear hK K
      repeat (refine mix0 rfl (fun K hK => ?_); go_simp; refine hK _ ?_; clear hK K)
      have c0 := K4.out.c0
      have c1 := K4.out.c1
      have g0 := K4.out.f0
      have g1 := K4.out.f1
      refine mix2 rfl (fun K hK => ?_); go_simp; refine hK _ _ ?_; clear hK K
      refine mixEnd ?_
      have HR1 : Hid (ChAt ((w4.setCell ⟨p, 0, none⟩ (.int .i64 ms)).setCell ⟨p, 1, none⟩ (.string (str S))) p (ms, S)) := Lib.hid (K4.out.set (ms, S))
      have HR2 : Hid (Below w2.heap.size w2 ((w4.setCell ⟨p, 0, none⟩ (.int .i64 ms)).setCell ⟨p, 1, none⟩ (.string (str S)))) := Lib.hid (setC_below B4.out (by have := Hp.out; omega) (ms, S))
      clear c0 c1 g0 g1
      go_wp2_with fail
      go_meet
      case rel => exact ⟨p, rfl, HR1, HR2⟩
    · go_simp
      refine (sector_any _ _).mono ?_
      rw [HS.out]
      rintro e w4 ⟨rfl, hb4⟩
      have B4 := Lib.hid (bnext (Below.refl _ w2).drew hb4)
      clear hb4 q0 q1
      refine ⟨_, rfl, hK _ _ (cls B4.out) ?_⟩
      clear hK K
      repeat (refine mixY0 rfl (fun K hK => ?_); go_simp; refine hK _ ?_; clear hK K)
      refine mixYe rfl (fun K hK => ?_)
      go_simp
      obtain ⟨w3, HW3⟩ : ∃ y, Hid (w4.alloc (.cells #[.int .i64 0, .string (str [])] 32) = y) := ⟨_, Lib.hid rfl⟩
      obtain ⟨p, Hp⟩ : ∃ y, Hid (w4.heap.size = y) := ⟨_, Lib.hid rfl⟩
      have B3 : Hid (Below w2.heap.size w2 w3) := Lib.hid (by rw [← HW3.out]; exact balloc B4.out _)
      have K3 : Hid (ChAt w3 p (0, [])) := Lib.hid (by rw [← HW3.out, ← Hp.out]; exact ChAt.new w4 (0, []) _)
      rw [HW3.out, Hp.out]
      refine hK _ _ (cls B3.out) ?_
      clear hK K
      have c0 := K3.out.c0
      have c1 := K3.out.c1
      have g0 := K3.out.f0
      have g1 := K3.out.f1
      refine mix2 rfl (fun K hK => ?_); go_simp; refine hK _ _ ?_; clear hK K
      refine mixEnd ?_
      have HR1 : Hid (ChAt ((w3.setCell ⟨p, 0, none⟩ (.int .i64 ms)).setCell ⟨p, 1, none⟩ (.string (str S))) p (ms, S)) := Lib.hid (K3.out.set (ms, S))
      have HR2 : Hid (Below w2.heap.size w2 ((w3.setCell ⟨p, 0, none⟩ (.int .i64 ms)).setCell ⟨p, 1, none⟩ (.string (str S)))) := Lib.hid (setC_below B3.out (by have := Hp.out; have := B4.out.size; omega) (ms, S))
      clear c0 c1 g0 g1
      go_wp2_with fail
      go_meet
      case rel => exact ⟨p, rfl, HR1, HR2⟩
  case rest =>
  obtain ⟨p, rfl, HK, HB⟩ := hcut
  have RW := Lib.hid (R2.out.below HB.out)
  have BW := Lib.hid (bnext B2.out HB.out)
  have c0 := HK.out.c0
  have c1 := HK.out.c1
  clear HL o0 o1 Hms HS B02 B01 B1
  obtain ⟨Am, cm, em⟩ := RW.out.shape
  obtain ⟨lm, Hlm⟩ : ∃ y, Hid (m.length = y) := ⟨_, Lib.hid rfl⟩
  rw [Hlm.out] at em
  subst em
  go_wp2_with fail
  rw [show (.agg #[.int .i64 ms, .string (str S)] : Value) = chV (ms, S) from rfl]
  refine (jPut_any _ m (ms, S) wc RW.out (by have := hml.out; omega)).mono ?_
  rintro e w3 ⟨v3, rfl, r3, n3, hb3⟩
  obtain ⟨n, Hn⟩ : ∃ y, Hid (putV m (ms, S) = y) := ⟨_, Lib.hid rfl⟩
  rw [Hn.out] at r3 F1 F2 F3 F4
  have R3 := Lib.hid r3
  have B3 := Lib.hid (bnext BW.out hb3)
  have K3 := Lib.hid (HK.out.below hb3)
  have RM3 := Lib.hid (RW.out.below hb3)
  obtain ⟨An, cn, en⟩ := r3.shape
  obtain ⟨ln, Hln⟩ : ∃ y, Hid (n.length = y) := ⟨_, Lib.hid rfl⟩
  rw [Hln.out] at en
  subst en
  have hln21 : Hid (ln ≤ 21) := Lib.hid (by rw [← Hln.out, ← Hn.out]; have := putV_length m (ms, S); have := hml.out; omega)
  have hln := hln21.out
  have hlm : lm ≤ 20 := by have := hml.out; have := Hlm.out; omega
  have GN := Lib.hid (R3.out.is encC_ok).1
  have GM := Lib.hid (RM3.out.is encC_ok).1
  clear r3 n3 hb3 c0 c1 RW BW HK HB RM3 R3
  go_wp2_with fail
  refine (xRow_any An ln cn n w3 GN.out).mono ?_
  rw [F1.out]
  rintro e w4 ⟨rfl, hb4⟩
  have B4 := Lib.hid (bnext B3.out hb4)
  have K4 := Lib.hid (K3.out.below hb4)
  have GN4 := Lib.hid (GN.out.below hb4)
  have GM4 := Lib.hid (GM.out.below hb4)
  clear hb4 K3 GN GM B3
  go_wp2_with fail
  go_loopw [10, 12] (fun f s wr => ∃ i : Nat, i ≤ ln ∧ s = .int .i64 i ∧ f = .int .i64 (cntP n (fun x => decide (x = (ms, S))) i : Nat) ∧ Hid (Below w4.heap.size w4 wr)) (fun _ s _ => ln - (intOf s).toNat)
  case atStart => exact ⟨0, Nat.zero_le _, rfl, rfl, Lib.hid (Below.refl _ _)⟩
  case round =>
    obtain ⟨i, hi, rfl, rfl, HB⟩ := hrel
    obtain ⟨q, Hq⟩ : ∃ y, Hid (cntP n (fun x => decide (x = (ms, S))) i = y) := ⟨_, Lib.hid rfl⟩
    have hq21 : q ≤ 21 := by rw [← Hq.out]; have := cntP_le n (fun x => decide (x = (ms, S))) i; have := Hln.out; have := hln21.out; omega
    rw [Hq.out]
    by_cases hlt : i < ln
    · have hiI : (i : Int) < (ln : Int) := by omega
      obtain ⟨g, off, rfl, hg, hc⟩ := (GN4.out.below HB.out).cells (by omega)
      obtain ⟨x, hx⟩ : ∃ x, n[i]? = some x := ⟨_, List.getElem?_eq_getElem (by have := Hln.out; omega)⟩
      have hst : Hid (cntP n (fun x => decide (x = (ms, S))) (i + 1) = q + (if decide (x = (ms, S)) then 1 else 0)) := Lib.hid (by rw [cntP_succ hx, Hq.out])
      have d0 := hc i x 0 (.int .i64 x.1) hx rfl
      have d1 := hc i x 1 (.string (str x.2)) hx rfl
      rw [Nat.add_zero] at d0
      have q0 : ∀ y : In (Abv wr), y.u.cell? ⟨g, off + i * 2, none⟩ = some (.int .i64 x.1) := fun y => (y.is.cell (p := ⟨g, off + i * 2, none⟩) hg).trans d0
      have q1 : ∀ y : In (Abv wr), y.u.cell? ⟨g, off + i * 2 + 1, none⟩ = some (.string (str x.2)) := fun y => (y.is.cell (p := ⟨g, off + i * 2 + 1, none⟩) hg).trans d1
      have q2 : ∀ y : In (Abv wr), y.u.cell? ⟨p, 0, none⟩ = some (.int .i64 ms) := fun y => (K4.out.below (bnext HB.out y.is)).c0
      have q3 : ∀ y : In (Abv wr), y.u.cell? ⟨p, 1, none⟩ = some (.string (str S)) := fun y => (K4.out.below (bnext HB.out y.is)).c1
      have q4 := eqC x (ms, S)
      clear hc hx d0 d1 hg
      by_cases hxe : x = (ms, S)
      · have hd : decide (x = (ms, S)) = true := by simpa using hxe
        rw [hd] at q4 hst
        have Hxe := Lib.hid hxe
        clear hxe
        go_wp2_with fail
        refine wp_region_mix (by kernel_rfl) (Cls (Abv wr)) [(0, 0), (1, 0), (2, 0), (3, 0), (4, 0), (5, 0)] (by kernel_rfl) (cls (Below.refl _ wr).drew) ?_
        repeat (refine mix0 rfl (fun K hK => ?_); go_simp; refine hK _ ?_; clear hK K)
        refine mixEnd ?_
        go_wp2
        go_roundw
        case rel => exact ⟨i + 1, by omega, by go_num, by rw [hst.out]; go_num, Lib.hid HB.out.drew⟩
        case measure => simp [intOf]; omega
      · have hd : decide (x = (ms, S)) = false := by simpa using hxe
        rw [hd] at q4 hst
        have Hxe := Lib.hid hxe
        clear hxe
        go_wp2_with fail
        refine wp_region_mix (by kernel_rfl) (Cls (Abv wr)) [(0, 0), (1, 0), (2, 0), (3, 0), (4, 0), (5, 0)] (by kernel_rfl) (cls (Below.refl _ wr).drew) ?_
        repeat (refine mix0 rfl (fun K hK => ?_); go_simp; refine hK _ ?_; clear hK K)
        refine mixEnd ?_
        go_wp2
        go_roundw
        case rel => exact ⟨i + 1, by omega, by go_num, by rw [hst.out]; go_num, Lib.hid HB.out.drew⟩
        case measure => simp [intOf]; omega
    · obtain rfl : i = ln := by omega
      have hiI : ¬ (i : Int) < (i : Int) := by omega
      have hq1 : q = 1 := by rw [← Hq.out, cntP_all _ _ _ (by have := Hln.out; omega)]; exact F2.out
      subst hq1
      have B5 : Hid (Below w4.heap.size w4 wr) := HB
      have K5 := Lib.hid (K4.out.below HB.out)
      have GN5 := Lib.hid (GN4.out.below HB.out)
      have GM5 := Lib.hid (GM4.out.below HB.out)
      have BB5 := Lib.hid (bnext B4.out HB.out)
      clear K4 GN4 GM4 HB Hq
      obtain ⟨w5, rfl⟩ : ∃ y, y = wr := ⟨_, rfl⟩
      go_wp2_with fail
      go_loopw [11, 13] (fun f s wr => ∃ j : Nat, j ≤ lm ∧ s = .int .i64 j ∧ f = .int .i64 (cntP m (fun x => decide (x.1 = ms)) j : Nat) ∧ Hid (Below w5.heap.size w5 wr)) (fun _ s _ => lm - (intOf s).toNat)
      case atStart => exact ⟨0, Nat.zero_le _, rfl, rfl, Lib.hid (Below.refl _ _)⟩
      case round =>
        obtain ⟨j, hj, rfl, rfl, HB⟩ := hrel
        obtain ⟨q, Hq⟩ : ∃ y, Hid (cntP m (fun x => decide (x.1 = ms)) j = y) := ⟨_, Lib.hid rfl⟩
        have hq20 : q ≤ 20 := by rw [← Hq.out]; have := cntP_le m (fun x => decide (x.1 = ms)) j; have := Hlm.out; omega
        rw [Hq.out]
        by_cases hlt : j < lm
        · have hjI : (j : Int) < (lm : Int) := by omega
          obtain ⟨g, off, rfl, hg, hc⟩ := (GM5.out.below HB.out).cells (by omega)
          obtain ⟨x, hx⟩ : ∃ x, m[j]? = some x := ⟨_, List.getElem?_eq_getElem (by have := Hlm.out; omega)⟩
          have hst : Hid (cntP m (fun x => decide (x.1 = ms)) (j + 1) = q + (if decide (x.1 = ms) then 1 else 0)) := Lib.hid (by rw [cntP_succ hx, Hq.out])
          have Hmem := Lib.hid (List.mem_of_getElem? hx)
          have d0 := hc j x 0 (.int .i64 x.1) hx rfl
          have d1 := hc j x 1 (.string (str x.2)) hx rfl
          rw [Nat.add_zero] at d0
          have q0 : ∀ y : In (Abv wr), y.u.cell? ⟨g, off + j * 2, none⟩ = some (.int .i64 x.1) := fun y => (y.is.cell (p := ⟨g, off + j * 2, none⟩) hg).trans d0
          have Hq1 := Lib.hid (fun (u : World) (hu : Below wr.heap.size wr u) => And.intro ((hu.cell (p := ⟨g, off + j * 2, none⟩) hg).trans d0) ((hu.cell (p := ⟨g, off + j * 2 + 1, none⟩) hg).trans d1))
          have q2 : ∀ y : In (Abv wr), y.u.cell? ⟨p, 0, none⟩ = some (.int .i64 ms) := fun y => (K5.out.below (bnext HB.out y.is)).c0
          clear hc hx d0 d1 hg
          by_cases hxe : x.1 = ms
          · have hd : (x.1 == ms) = true := by simpa using hxe
            rw [show decide (x.1 = ms) = true by simpa using hxe] at hst
            clear hxe
            go_wp2_with fail
            refine wp_region_mix (by kernel_rfl) (Cls (Abv wr)) [(0, 0), (1, 0), (2, 0), (3, 0), (4, 0), (5, 0), (6, 0), (7, 0)] (by kernel_rfl) (cls (Below.refl _ wr).drew) ?_
            repeat (refine mix0 rfl (fun K hK => ?_); go_simp; refine hK _ ?_; clear hK K)
            refine mixEnd ?_
            go_wp2
            go_roundw
            case rel => exact ⟨j + 1, by omega, by go_num, by rw [hst.out]; go_num, Lib.hid HB.out.drew⟩
            case measure => simp [intOf]; omega
          · have hd : (x.1 == ms) = false := by simpa using hxe
            rw [show decide (x.1 = ms) = false by simpa using hxe] at hst
            have Hin : Hid (x ∈ n) := Lib.hid (F3.out x Hmem.out hxe)
            clear hxe
            go_wp2_with fail
            refine wp_region_mix (by kernel_rfl) (Cls (Abv wr)) [(0, 0), (1, 0), (2, 0), (3, 0), (4, 0), (5, 0), (6, 0), (7, 0)] (by kernel_rfl) (cls (Below.refl _ wr).drew) ?_
            repeat (refine mix0 rfl (fun K hK => ?_); go_simp; refine hK _ ?_; clear hK K)
            refine mixEnd ?_
            obtain ⟨w6, Hw6⟩ : ∃ y, Hid (wr.drew = y) := ⟨_, Lib.hid rfl⟩
            have B6 : Hid (Below wr.heap.size wr w6) := Lib.hid (by rw [← Hw6.out]; exact (Below.refl _ _).drew)
            rw [Hw6.out]
            clear q0 q2
            go_wp2_with fail
            go_loopw [14, 15] (fun t s wx => ∃ k : Nat, k ≤ i ∧ s = .int .i64 k ∧ t = .bool ((n.take k).any (fun y => decide (y = x))) ∧ Hid (Below w6.heap.size w6 wx)) (fun _ s _ => i - (intOf s).toNat)
            case atStart => exact ⟨0, Nat.zero_le _, rfl, rfl, Lib.hid (Below.refl _ _)⟩
            case round =>
              obtain ⟨k, hk, rfl, rfl, HBx⟩ := hrel
              obtain ⟨t, Ht⟩ : ∃ y, Hid ((n.take k).any (fun y => decide (y = x)) = y) := ⟨_, Lib.hid rfl⟩
              rw [Ht.out]
              by_cases hltk : k < i
              · have hkI : (k : Int) < (i : Int) := by omega
                obtain ⟨z, hz⟩ : ∃ z, n[k]? = some z := ⟨_, List.getElem?_eq_getElem (by have := Hln.out; omega)⟩
                have hst2 : Hid ((n.take (k + 1)).any (fun y => decide (y = x)) = (t || decide (z = x))) := Lib.hid (by
                  obtain ⟨hk', he⟩ := List.getElem?_eq_some_iff.1 hz
                  rw [List.take_succ_eq_append_getElem hk', he, List.any_append, Ht.out]
                  simp)
                have BX := Lib.hid (bnext B6.out HBx.out)
                obtain ⟨g2, off2, rfl, hg2, hc2⟩ := (GN5.out.below (bnext HB.out BX.out)).cells (by omega)
                have d0 := hc2 k z 0 (.int .i64 z.1) hz rfl
                have d1 := hc2 k z 1 (.string (str z.2)) hz rfl
                rw [Nat.add_zero] at d0
                have r0 : ∀ y : In (Abv wr), y.u.cell? ⟨g2, off2 + k * 2, none⟩ = some (.int .i64 z.1) := fun y => (y.is.cell (p := ⟨g2, off2 + k * 2, none⟩) hg2).trans d0
                have r1 : ∀ y : In (Abv wr), y.u.cell? ⟨g2, off2 + k * 2 + 1, none⟩ = some (.string (str z.2)) := fun y => (y.is.cell (p := ⟨g2, off2 + k * 2 + 1, none⟩) hg2).trans d1
                have r2 : ∀ y : In (Abv wr), y.u.cell? ⟨g, off + j * 2, none⟩ = some (.int .i64 x.1) := fun y => (Hq1.out y.u (bnext BX.out y.is)).1
                have r3 : ∀ y : In (Abv wr), y.u.cell? ⟨g, off + j * 2 + 1, none⟩ = some (.string (str x.2)) := fun y => (Hq1.out y.u (bnext BX.out y.is)).2
                have r4 := eqC z x
                clear hc2 hz d0 d1 hg2
                obtain ⟨ez, Hez⟩ : ∃ y, Hid (decide (z = x) = y) := ⟨_, Lib.hid rfl⟩
                rw [Hez.out] at r4 hst2
                cases t
                · go_wp2_with fail
                  refine wp_region_mix (by kernel_rfl) (Cls (Abv wr)) [(0, 0), (1, 0), (2, 0), (3, 0), (4, 0), (5, 0), (6, 0), (7, 0), (8, 0), (9, 0), (10, 0), (11, 0), (12, 0)] (by kernel_rfl) (cls (Below.refl _ wr).drew) ?_
                  repeat (refine mix0 rfl (fun K hK => ?_); go_simp; refine hK _ ?_; clear hK K)
                  refine mixEnd ?_
                  go_wp2
                  go_roundw
                  case rel => exact ⟨k + 1, by omega, by go_num, by rw [hst2.out]; rfl, Lib.hid HBx.out.drew⟩
                  case measure => simp [intOf]; omega
                · go_wp2_with fail
                  refine wp_region_mix (by kernel_rfl) (Cls (Abv wr)) [(0, 0), (1, 0), (2, 0), (3, 0), (4, 0), (5, 0), (6, 0), (7, 0), (8, 0), (9, 0), (10, 0), (11, 0), (12, 0)] (by kernel_rfl) (cls (Below.refl _ wr).drew) ?_
                  repeat (refine mix0 rfl (fun K hK => ?_); go_simp; refine hK _ ?_; clear hK K)
                  refine mixEnd ?_
                  go_wp2
                  go_roundw
                  case rel => exact ⟨k + 1, by omega, by go_num, by rw [hst2.out]; rfl, Lib.hid HBx.out.drew⟩
                  case measure => simp [intOf]; omega
              · obtain rfl : k = i := by omega
                have hkI : ¬ (k : Int) < (k : Int) := by omega
                have ht1 : t = true := by
                  rw [← Ht.out, List.take_of_length_le (by have := Hln.out; omega), List.any_eq_true]
                  exact ⟨x, Hin.out, by simp⟩
                subst ht1
                have HBf := Lib.hid (bnext HB.out (bnext B6.out HBx.out))
                clear Ht
                go_wp2
                go_roundw
                case rel => exact ⟨j + 1, by omega, by go_num, by rw [hst.out]; go_num, HBf⟩
                case measure => simp [intOf]; omega
        · obtain rfl : j = lm := by omega
          have hjI : ¬ (j : Int) < (j : Int) := by omega
          have hq1 : Hid (i + q = j + 1) := Lib.hid (by
            have h := F4.out
            rw [show m.countP (fun x => decide (x.1 = ((ms, S) : Ch).1)) = q by rw [← Hq.out, cntP_all _ _ _ (by have := Hlm.out; omega)], Hln.out, Hlm.out] at h
            exact h)
          have hw1 : IntKind.i64.wrap ((j : Int) + 1) = (j : Int) + 1 := IntWalk.i64_in _ (by omega)
          have hw2 : IntKind.i64.wrap ((j : Int) + 1 - (q : Int)) = (i : Int) := by rw [IntWalk.i64_in _ (by omega)]; have := hq1.out; omega
          clear Hq
          go_wp2
          go_ret
          exact ⟨rfl, bnext BB5.out HB.out⟩
set_option maxRecDepth 100000 in
theorem lifted (os : Os) (started : os.Started) (H : Type) (enc : TypeId × Value → H) :
    ReturnsInHanded {} Tryd.checked os 6 .any (fun w args => (Rows.journalPutsSpec.pre enc Tryd.prog Tryd.f6 [] false w args ∧ laidMetH Tryd.prog laidT w) ∧ sizedMet enc Tryd.prog Tryd.f6 (OpenSpec.ofChange Rows.journalPutsSpec) false w args)
      (Rows.journalPutsSpec.post enc Tryd.prog Tryd.f6 false true false false) := by
  refine returnsInHanded_of_change_and (C := Tryd.checked) (X := fun w _ => laidMetH Tryd.prog laidT w) (fun _ _ _ hh h => h.of_heap hh) own started (by kernel_rfl) Tryd.func6
    (ChangeSpec.witness_shaped (enc := enc) (C := Tryd.checked) (os := os) (X := fun w _ => laidMetH Tryd.prog laidT w) false (World.doorLaid Tryd.prog 400 os) #[.slice none 0 0, .agg #[.int .i64 0, .int .u8 0, .bool false]] 8 rfl (World.shaped_of_RefB (by kernel_rfl) (by kernel_rfl)) (by kernel_rfl) (by kernel_rfl) (by kernel_rfl) (door_met os _)) ?_
  intro W base args ds gs before hval0 hW _ _ hL _
  have hval : ∀ (j : Nat) t v, Tryd.f6.params[j]? = some t → args[j]? = some v → Value.okWide Tryd.prog W .any base t v := hval0
  have hW' := hW
  obtain ⟨p, q, hA0, hV, rfl, hfz, hnd⟩ := hW
  have hA : DataW.TrodAll enc Tryd.prog W 0 (fun _ => true) true Tryd.f6.params.toList args.toList ds p := hA0
  rw [Tryd.params6] at hA hval
  obtain ⟨v0, vs0, d0, ds0, p0, q0, hargs, rfl, rfl, h0, r0⟩ := trodAll_cons hA
  obtain ⟨v1, vs1, d1, ds1, p1, q1, rfl, rfl, rfl, h1, r1⟩ := trodAll_cons r0
  obtain ⟨rfl, rfl, rfl⟩ := trodAll_nil r1
  obtain rfl : args = #[v0, v1] := by cases args; simp_all
  obtain ⟨x0, len0, cap0, a0, rfl, w0, y0⟩ := opens_specs (hval 0 28 v0 rfl rfl) h0
  obtain ⟨a1, rfl, w1⟩ := open_spec (hval 1 39 v1 rfl rfl) h1
  clear hA0 hval0
  refine (walk x0 len0 cap0 a0 a1 W w0 y0 w1 (tab_of_laid hL)).mono fun e W' ⟨he, bel⟩ => ?_
  subst he
  exact ⟨_, rfl, law_post laidOut (by rw [Tryd.params6]; decide +kernel) rfl Tryd.underlying4 rfl hW' (fun _ => rfl) bel⟩
theorem over : Rows.journalPutsRow.holds Tryd.pinned (OpenSpec.ofChange Rows.journalPutsSpec) :=
  OpenClaim.holds_of_wide 6 Tryd.f6 rfl rfl rfl rfl rfl rfl rfl ⟨rfl, rfl, rfl, rfl, rfl⟩ rfl rfl rfl rfl rfl (by kernel_rfl) Tryd.func6 (by kernel_rfl)
    (of_decide_eq_true (by kernel_rfl)) (by unfold Func.isWrapper; first | (rw [if_pos (by decide +kernel)]; kernel_rfl) | (rw [if_neg (by decide +kernel)]; exact ⟨rfl, rfl⟩))
    (fun os started H enc _ => lifted os started H enc)
theorem proved : Rows.JournalPutsCardSaid :=
  Claim7.holds_tied_plain_at .later [] [.data] true Rows.journalPutsCard.stood.harness false over (fun _ h => by cases h) (by kernel_rfl) (fun _ h => by cases h) journalPuts_row_tie rfl ⟨rfl, rfl⟩ (by kernel_rfl) rfl
    (fun f fn hf hfn => by
      obtain rfl : f = 6 := Option.some.inj ((show Tryd.prog.funcNamed "lockgate/lockgatelaw11.JournalPuts" = some 6 by kernel_rfl).symm.trans hf) |>.symm
      obtain rfl : fn = Tryd.f6 := (Option.some.inj (Tryd.func6.symm.trans hfn)).symm
      exact ⟨by kernel_rfl, fun j t ht => by
        rw [Tryd.params6] at ht
        have hm : t ∈ [28, 39] := by simpa using Array.mem_of_getElem? ht
        have hall : ([28, 39].all fun u => !Tryd.prog.wantsStandIn u) = true := by kernel_rfl
        exact (show Tryd.prog.wantsStandIn t = false by simpa using List.all_eq_true.1 hall t hm)⟩)
    (by kernel_rfl)
end Go.Proofs.YtgncmgchoogmpaaDoor.journalPuts
