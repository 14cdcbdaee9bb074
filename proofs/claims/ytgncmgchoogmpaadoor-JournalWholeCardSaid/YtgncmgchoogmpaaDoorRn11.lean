/- The document's Put of layer 11, at this translation. -/
import Derived.Test.YtgncmgchoogmpaaDoorRm11
namespace Go.Proofs.YtgncmgchoogmpaaDoor
open Go.RowKit

set_option maxRecDepth 100000 in
set_option maxHeartbeats 4000000 in
theorem xPut_any (v : Value) (l : List Ch) (c : Ch) (w : World) (h : RG w 2 encC v l) (hn : l.length ≤ 1000) :
    Calls Tryd.prog 34 #[v, chV c] w fun e w' => ∃ v', e = .returned v' ∧ RG w' 2 encC v' (putV l c) ∧ (∀ g, blk v' = some g → w.heap.size ≤ g) ∧ Below w.heap.size w w' := by
  rw [chV_def]
  obtain ⟨A, cp, rfl⟩ := h.shape
  obtain ⟨n, Hn⟩ : ∃ x, Hid (l.length = x) := ⟨_, Lib.hid rfl⟩
  rw [Hn.out] at h hn ⊢
  obtain ⟨G0, hcp, _⟩ := h.is encC_ok
  have G := Lib.hid G0
  have R := Lib.hid h
  obtain ⟨w0, HW0⟩ : ∃ x, Hid (w.alloc (.cells #[.int .i64 c.1, .string (str c.2)] 32) = x) := ⟨_, Lib.hid rfl⟩
  have B0 : Hid (Below w.heap.size w w0) := Lib.hid (by rw [← HW0.out]; exact balloc (Below.refl _ _) _)
  obtain ⟨p, Hp⟩ : ∃ x, Hid (w.heap.size = x) := ⟨_, Lib.hid rfl⟩
  have K0 : Hid (ChAt w0 p c) := Lib.hid (by rw [← HW0.out, ← Hp.out]; exact ChAt.new w c _)
  clear G0 h
  have hnil : (A = none ∧ n = 0 ∧ cp = 0) ∨ ∃ g off, A = some ⟨g, off, none⟩ := by
    rcases R.out.row.is with ⟨e, _⟩ | ⟨g, off, cap, e, _⟩
    · injection e with e1 e2 e3
      exact .inl ⟨e1, e2, e3⟩
    · injection e with e1 e2 e3
      exact .inr ⟨g, off, e1⟩
  rcases hnil with ⟨rfl, rfl, rfl⟩ | ⟨g, off, rfl⟩
  · obtain rfl : l = [] := List.eq_nil_of_length_eq_zero Hn.out
    have HF : Hid (putV [] c = [c]) := Lib.hid rfl
    go_enter Tryd.func34, Tryd.ntmps34
    go_wp2_with fail
    rw [HW0.out, Hp.out]
    go_rounds 1
    go_wp2_with fail
    have d0 := K0.out.c0
    obtain ⟨wr, HWr⟩ : ∃ x, Hid (w0 = x) := ⟨_, Lib.hid rfl⟩
    have HB : Hid (Below w0.heap.size w0 wr) := Lib.hid (by rw [← HWr.out]; exact Below.refl _ _)
    go_rounds 1
    rw [HWr.out]
    refine wp_region_mix (by kernel_rfl) (Cls (Abv wr)) [(0, 0), (1, 0), (2, 0), (3, 0), (4, 0), (5, 0), (6, 0), (7, 0), (8, 0), (9, 0), (10, 0), (11, 0), (12, 0), (13, 0)] (by kernel_rfl) (cls (Below.refl _ wr).drew) ?_
    repeat (refine mix0 rfl (fun K hK => ?_); go_simp; refine hK _ ?_; clear hK K)
    refine mixEnd ?_
    obtain ⟨wq, HWq⟩ : ∃ x, Hid (wr.drew = x) := ⟨_, Lib.hid rfl⟩
    have BQ : Hid (Below w0.heap.size w0 wq) := Lib.hid (by rw [← HWq.out]; exact HB.out.drew)
    rw [HWq.out]
    have Kq := Lib.hid (K0.out.below BQ.out)
    obtain ⟨v1, w1, hr1, r1, a1⟩ := appG chInf encC_ok (RG.nil wq 2 encC) (c := 0) (isG_nil wq 2 encC) (by simp) (by decide) 30
    have Hr1 := Lib.hid hr1
    have R1 : Hid (RG w1 2 encC v1 []) := Lib.hid r1
    have B1 : Hid (Below wq.heap.size wq w1) := Lib.hid (a1.mod.to_below (fun g' _ hg' => by cases hg'))
    have N1 : Hid (∀ g', blk v1 = some g' → wq.heap.size ≤ g') := Lib.hid (fun g' hg' => by
      rcases a1.blk with e | ⟨g'', e, h'⟩
      · rw [e] at hg'; cases hg'
      · rw [e] at hg'; injection hg' with hg'; omega)
    clear hr1 r1 a1
    have K1 := Lib.hid (Kq.out.below B1.out)
    have d0 := K1.out.c0
    have d1 := K1.out.c1
    obtain ⟨w2, HW2⟩ : ∃ x, Hid (w1.alloc (.cells #[.int .i64 c.1, .string (str c.2)] 32) = x) := ⟨_, Lib.hid rfl⟩
    obtain ⟨p2, Hp2⟩ : ∃ x, Hid (w1.heap.size = x) := ⟨_, Lib.hid rfl⟩
    have B12 : Hid (Below w1.heap.size w1 w2) := Lib.hid (by rw [← HW2.out]; exact balloc (Below.refl _ _) _)
    have C2 : Hid (IsG w2 2 encC (some ⟨p2, 0, none⟩) 1 [c]) := Lib.hid (by rw [← HW2.out, ← Hp2.out]; exact ch_one w1 c _)
    have B2 := Lib.hid (bnext B1.out B12.out)
    obtain ⟨v3, w3, hr3, r3, a3⟩ := appG chInf encC_ok (R1.out.below B12.out) (c := 1) C2.out (by simp) (by decide) 30
    have Hr3 := Lib.hid hr3
    have R3 := Lib.hid r3
    have B3 : Hid (Below wq.heap.size wq w3) := Lib.hid (Mod.below B2.out a3.mod B2.out.size N1.out)
    have N3 : Hid (∀ g', blk v3 = some g' → wq.heap.size ≤ g') := Lib.hid (fun g' hg' => by
      rcases a3.blk with e | ⟨g'', e, h'⟩
      · rw [e] at hg'; exact N1.out g' hg'
      · rw [e] at hg'; injection hg' with hg'; have := B2.out.size; omega)
    clear hr3 r3 a3
    have D5 : Hid (IsG w3 2 encC none 0 []) := Lib.hid (isG_nil w3 2 encC)
    obtain ⟨v5, w5, hr5, r5, a5⟩ := appG chInf encC_ok R3.out (c := 0) D5.out (by simp) (by decide) 30
    have Hr5 := Lib.hid hr5
    have R5 : Hid (RG w5 2 encC v5 (putV [] c)) := Lib.hid (by rw [HF.out]; exact r5)
    have B5 : Hid (Below wq.heap.size wq w5) := Lib.hid (Mod.below B3.out a5.mod B3.out.size N3.out)
    have N5 : Hid (∀ g', blk v5 = some g' → wq.heap.size ≤ g') := Lib.hid (fun g' hg' => by
      rcases a5.blk with e | ⟨g'', e, h'⟩
      · rw [e] at hg'; exact N3.out g' hg'
      · rw [e] at hg'; injection hg' with hg'; have := B3.out.size; omega)
    clear hr5 r5 a5
    go_wp2_with (first | (at_builtin; refine wpList_append_run rfl (.tmp 53) (.tmp 56) 30 rfl (by exact Hr1.out) ?_) | (at_builtin; rw [HW2.out, Hp2.out]; refine wpList_append_run rfl (.tmp 58) (.tmp 60) 30 rfl (by exact Hr3.out) ?_) | (at_builtin; refine wpList_append_run rfl (.tmp 62) (.tmp 65) 30 rfl (by exact Hr5.out) ?_))
    go_ret
    exact ⟨v5, rfl, R5.out, fun g' hg' => by have := N5.out g' hg'; have := (bnext B0.out BQ.out).size; omega, bnext (bnext B0.out BQ.out) B5.out⟩
  · go_enter Tryd.func34, Tryd.ntmps34
    go_wp2_with fail
    rw [HW0.out, Hp.out]
    go_loopw [5, 6] (fun v i wr => ∃ k : Nat, k ≤ n ∧ v = .slice none 0 0 ∧ i = .int .i64 k ∧ Hid (∀ j y, j < k → l[j]? = some y → y.1 ≠ c.1) ∧ Hid (Below w0.heap.size w0 wr)) (fun _ i _ => n - (intOf i).toNat)
    case atStart => exact ⟨0, Nat.zero_le _, rfl, rfl, Lib.hid (fun j y h => by omega), Lib.hid (Below.refl _ _)⟩
    case round =>
      obtain ⟨k, hk, rfl, rfl, HP, HB⟩ := hrel
      by_cases hlt : k < n
      · have hkI : (k : Int) < (n : Int) := by omega
        obtain ⟨x, hx⟩ : ∃ x, l[k]? = some x := ⟨_, List.getElem?_eq_getElem (by have := Hn.out; omega)⟩
        have Hx := Lib.hid hx
        obtain ⟨g', off', e, hg, hc⟩ := (G.out.below (bnext B0.out HB.out)).cells (by omega)
        have e1 : g = g' := congrArg Addr.block (Option.some.inj e)
        have e2 : off = off' := congrArg Addr.off (Option.some.inj e)
        subst e1 e2
        have c0 := hc k x 0 (.int .i64 x.1) hx rfl
        rw [Nat.add_zero] at c0
        have q0 : ∀ y : In (Abv wr), y.u.cell? ⟨g, off + k * 2, none⟩ = some (.int .i64 x.1) := fun y => (y.is.cell (p := ⟨g, off + k * 2, none⟩) hg).trans c0
        have Kr := K0.out.below HB.out
        have q1 : ∀ y : In (Abv wr), y.u.cell? ⟨p, 0, none⟩ = some (.int .i64 c.1) := fun y => (Kr.below y.is).c0
        clear hc hx e c0 Kr hg
        by_cases heq : x.1 = c.1
        · have hb : (x.1 == c.1) = true := by simpa using heq
          have HF : Hid (putV l c = l.take k ++ c :: l.drop (k + 1)) := Lib.hid (putV_eq (eqAt_is Hx.out heq HP.out) (by have := Hn.out; omega))
          clear HP Hx heq
          go_wp2_with fail
          refine wp_region_mix (by kernel_rfl) (Cls (Abv wr)) [(0, 0), (1, 0), (2, 0), (3, 0), (4, 0), (5, 0), (6, 0), (7, 0)] (by kernel_rfl) (cls (Below.refl _ wr).drew) ?_
          repeat (refine mix0 rfl (fun K hK => ?_); go_simp; refine hK _ ?_; clear hK K)
          refine mixEnd ?_
          obtain ⟨wq, HWq⟩ : ∃ x, Hid (wr.drew = x) := ⟨_, Lib.hid rfl⟩
          have BQ : Hid (Below w0.heap.size w0 wq) := Lib.hid (by rw [← HWq.out]; exact HB.out.drew)
          rw [HWq.out]
          clear q0 q1
          obtain ⟨t, Ht⟩ : ∃ t, Hid (k + 1 = t) := ⟨_, Lib.hid rfl⟩
          have hwt : IntKind.i64.wrap ((k : Int) + 1) = (t : Int) := by rw [IntWalk.i64_in _ (by omega)]; have := Ht.out; omega
          rw [Ht.out] at HF
          have htn : t ≤ n := by have := Ht.out; omega
          have Gq := Lib.hid (G.out.below (bnext B0.out BQ.out))
          have Kq := Lib.hid (K0.out.below BQ.out)
          have hf1 : k ≤ n := by omega
          have hf2 : t ≤ n := by omega
          have hf3 : k ≤ cp := by omega
          have hf4 : t ≤ cp := by omega
          have hf5 : (k : Int) ≤ (cp : Int) := by omega
          have hf6 : ((t : Int) : Int) ≤ (n : Int) := by omega
          obtain ⟨v1, w1, hr1, r1, a1⟩ := appG chInf encC_ok (RG.nil wq 2 encC) (c := cp) (Gq.out.take hf1) (by simp; omega) (by decide) 30
          have Hr1 := Lib.hid hr1
          have R1 : Hid (RG w1 2 encC v1 (l.take k)) := Lib.hid (by rw [List.nil_append] at r1; exact r1)
          have B1 : Hid (Below wq.heap.size wq w1) := Lib.hid (a1.mod.to_below (fun g' _ hg' => by cases hg'))
          have N1 : Hid (∀ g', blk v1 = some g' → wq.heap.size ≤ g') := Lib.hid (fun g' hg' => by
            rcases a1.blk with e | ⟨g'', e, h'⟩
            · rw [e] at hg'; cases hg'
            · rw [e] at hg'; injection hg' with hg'; omega)
          clear hr1 r1 a1
          have K1 := Lib.hid (Kq.out.below B1.out)
          have d0 := K1.out.c0
          have d1 := K1.out.c1
          obtain ⟨w2, HW2⟩ : ∃ x, Hid (w1.alloc (.cells #[.int .i64 c.1, .string (str c.2)] 32) = x) := ⟨_, Lib.hid rfl⟩
          obtain ⟨p2, Hp2⟩ : ∃ x, Hid (w1.heap.size = x) := ⟨_, Lib.hid rfl⟩
          have B12 : Hid (Below w1.heap.size w1 w2) := Lib.hid (by rw [← HW2.out]; exact balloc (Below.refl _ _) _)
          have C2 : Hid (IsG w2 2 encC (some ⟨p2, 0, none⟩) 1 [c]) := Lib.hid (by rw [← HW2.out, ← Hp2.out]; exact ch_one w1 c _)
          have B2 := Lib.hid (bnext B1.out B12.out)
          obtain ⟨v3, w3, hr3, r3, a3⟩ := appG chInf encC_ok (R1.out.below B12.out) (c := 1) C2.out (by rw [List.length_take]; omega) (by decide) 30
          have Hr3 := Lib.hid hr3
          have R3 := Lib.hid r3
          have B3 : Hid (Below wq.heap.size wq w3) := Lib.hid (Mod.below B2.out a3.mod B2.out.size N1.out)
          have N3 : Hid (∀ g', blk v3 = some g' → wq.heap.size ≤ g') := Lib.hid (fun g' hg' => by
            rcases a3.blk with e | ⟨g'', e, h'⟩
            · rw [e] at hg'; exact N1.out g' hg'
            · rw [e] at hg'; injection hg' with hg'; have := B2.out.size; omega)
          clear hr3 r3 a3
          obtain ⟨A5, HA5⟩ : ∃ x, Hid ((if cp = t then some (⟨g, off, none⟩ : Addr) else some ⟨g, off + t * 2, none⟩) = x) := ⟨_, Lib.hid rfl⟩
          have D5 : Hid (IsG w3 2 encC A5 (n - t) (l.drop t)) := Lib.hid ((Gq.out.below B3.out).drop hf2 _ (fun h => by rw [← HA5.out]; exact if_neg (by omega)))
          obtain ⟨v5, w5, hr5, r5, a5⟩ := appG chInf encC_ok R3.out (c := cp - t) D5.out (by rw [List.length_append, List.length_take]; simp; omega) (by decide) 30
          have Hr5 := Lib.hid hr5
          have R5 : Hid (RG w5 2 encC v5 (putV l c)) := Lib.hid (by rw [HF.out]; rw [List.append_assoc] at r5; exact r5)
          have B5 : Hid (Below wq.heap.size wq w5) := Lib.hid (Mod.below B3.out a5.mod B3.out.size N3.out)
          have N5 : Hid (∀ g', blk v5 = some g' → wq.heap.size ≤ g') := Lib.hid (fun g' hg' => by
            rcases a5.blk with e | ⟨g'', e, h'⟩
            · rw [e] at hg'; exact N3.out g' hg'
            · rw [e] at hg'; injection hg' with hg'; have := B3.out.size; omega)
          clear hr5 r5 a5
          go_wp2_with (first | (at_builtin; refine wpList_append_run rfl (.tmp 22) (.tmp 25) 30 rfl (by exact Hr1.out) ?_) | (at_builtin; rw [HW2.out, Hp2.out]; refine wpList_append_run rfl (.tmp 27) (.tmp 29) 30 rfl (by exact Hr3.out) ?_) | (at_builtin; rw [HA5.out]; refine wpList_append_run rfl (.tmp 31) (.tmp 35) 30 rfl (by exact Hr5.out) ?_))
          go_ret
          exact ⟨v5, rfl, R5.out, fun g' hg' => by have := N5.out g' hg'; have := (bnext B0.out BQ.out).size; omega, bnext (bnext B0.out BQ.out) B5.out⟩
        · have hb : (x.1 == c.1) = false := by simpa using heq
          have HS : Hid (∀ j y, j < k + 1 → l[j]? = some y → y.1 ≠ c.1) := Lib.hid (fun j y hj hy => by
            rcases Nat.lt_succ_iff_lt_or_eq.1 hj with hj | rfl
            · exact HP.out j y hj hy
            · rw [Hx.out] at hy; injection hy with hy; exact hy ▸ heq)
          clear heq
          go_wp2_with fail
          refine wp_region_mix (by kernel_rfl) (Cls (Abv wr)) [(0, 0), (1, 0), (2, 0), (3, 0), (4, 0), (5, 0), (6, 0), (7, 0)] (by kernel_rfl) (cls (Below.refl _ wr).drew) ?_
          repeat (refine mix0 rfl (fun K hK => ?_); go_simp; refine hK _ ?_; clear hK K)
          refine mixEnd ?_
          go_wp2
          go_roundw
          case rel => exact ⟨k + 1, by omega, rfl, by go_num, HS, Lib.hid HB.out.drew⟩
          case measure => simp [intOf]; omega
      · obtain rfl : k = n := by omega
        have hkI : ¬ (k : Int) < (k : Int) := by omega
        have HE : Hid (eqAt l c.1 = l.length) := Lib.hid (eqAt_none (by rw [Hn.out]; exact HP.out))
        have HB1 := HB
        clear HP
        go_wp2_with fail
        go_loopw [7] (fun i wr => ∃ f : Nat, f ≤ k ∧ i = .int .i64 f ∧ Hid (∀ j y, j < f → l[j]? = some y → y.1 ≤ c.1) ∧ Hid (Below w0.heap.size w0 wr)) (fun i _ => k - (intOf i).toNat)
        case atStart => exact ⟨0, Nat.zero_le _, rfl, Lib.hid (fun j y h => by omega), HB1⟩
        case round =>
          obtain ⟨f, hf, rfl, HP, HB⟩ := hrel
          by_cases hlf : f < k
          · have hfI : (f : Int) < (k : Int) := by omega
            obtain ⟨x, hx⟩ : ∃ x, l[f]? = some x := ⟨_, List.getElem?_eq_getElem (by have := Hn.out; omega)⟩
            have Hx := Lib.hid hx
            obtain ⟨g', off', e, hg, hc⟩ := (G.out.below (bnext B0.out HB.out)).cells (by omega)
            have e1 : g = g' := congrArg Addr.block (Option.some.inj e)
            have e2 : off = off' := congrArg Addr.off (Option.some.inj e)
            subst e1 e2
            have c0 := hc f x 0 (.int .i64 x.1) hx rfl
            rw [Nat.add_zero] at c0
            have q0 : ∀ y : In (Abv wr), y.u.cell? ⟨g, off + f * 2, none⟩ = some (.int .i64 x.1) := fun y => (y.is.cell (p := ⟨g, off + f * 2, none⟩) hg).trans c0
            have Kr := K0.out.below HB.out
            have q1 : ∀ y : In (Abv wr), y.u.cell? ⟨p, 0, none⟩ = some (.int .i64 c.1) := fun y => (Kr.below y.is).c0
            clear hc hx e c0 Kr hg
            by_cases hle : x.1 ≤ c.1
            · have HS : Hid (∀ j y, j < f + 1 → l[j]? = some y → y.1 ≤ c.1) := Lib.hid (fun j y hj hy => by
                rcases Nat.lt_succ_iff_lt_or_eq.1 hj with hj | rfl
                · exact HP.out j y hj hy
                · rw [Hx.out] at hy; injection hy with hy; exact hy ▸ hle)
              go_wp2_with fail
              refine wp_region_mix (by kernel_rfl) (Cls (Abv wr)) [(0, 0), (1, 0), (2, 0), (3, 0), (4, 0), (5, 0), (6, 0), (7, 0), (8, 0), (9, 0), (10, 0), (11, 0), (12, 0), (13, 0)] (by kernel_rfl) (cls (Below.refl _ wr).drew) ?_
              repeat (refine mix0 rfl (fun K hK => ?_); go_simp; refine hK _ ?_; clear hK K)
              refine mixEnd ?_
              go_wp2
              go_roundw
              case rel => exact ⟨f + 1, by omega, by go_num, HS, Lib.hid HB.out.drew⟩
              case measure => simp [intOf]; omega
            · have HF : Hid (putV l c = l.take f ++ c :: l.drop f) := Lib.hid (putV_gt HE.out (gtAt_is Hx.out (by omega) HP.out))
              clear HP
              go_wp2_with fail
              refine wp_region_mix (by kernel_rfl) (Cls (Abv wr)) [(0, 0), (1, 0), (2, 0), (3, 0), (4, 0), (5, 0), (6, 0), (7, 0), (8, 0), (9, 0), (10, 0), (11, 0), (12, 0), (13, 0)] (by kernel_rfl) (cls (Below.refl _ wr).drew) ?_
              repeat (refine mix0 rfl (fun K hK => ?_); go_simp; refine hK _ ?_; clear hK K)
              refine mixEnd ?_
              obtain ⟨wq, HWq⟩ : ∃ x, Hid (wr.drew = x) := ⟨_, Lib.hid rfl⟩
              have BQ : Hid (Below w0.heap.size w0 wq) := Lib.hid (by rw [← HWq.out]; exact HB.out.drew)
              rw [HWq.out]
              clear q0 q1
              have Gq := Lib.hid (G.out.below (bnext B0.out BQ.out))
              have Kq := Lib.hid (K0.out.below BQ.out)
              have hf1 : f ≤ k := by omega
              have hf2 : f ≤ k := by omega
              have hf3 : f ≤ cp := by omega
              have hf4 : f ≤ cp := by omega
              have hf5 : (f : Int) ≤ (cp : Int) := by omega
              have hf6 : ((f : Int) : Int) ≤ (k : Int) := by omega
              obtain ⟨v1, w1, hr1, r1, a1⟩ := appG chInf encC_ok (RG.nil wq 2 encC) (c := cp) (Gq.out.take hf1) (by simp; omega) (by decide) 30
              have Hr1 := Lib.hid hr1
              have R1 : Hid (RG w1 2 encC v1 (l.take f)) := Lib.hid (by rw [List.nil_append] at r1; exact r1)
              have B1 : Hid (Below wq.heap.size wq w1) := Lib.hid (a1.mod.to_below (fun g' _ hg' => by cases hg'))
              have N1 : Hid (∀ g', blk v1 = some g' → wq.heap.size ≤ g') := Lib.hid (fun g' hg' => by
                rcases a1.blk with e | ⟨g'', e, h'⟩
                · rw [e] at hg'; cases hg'
                · rw [e] at hg'; injection hg' with hg'; omega)
              clear hr1 r1 a1
              have K1 := Lib.hid (Kq.out.below B1.out)
              have d0 := K1.out.c0
              have d1 := K1.out.c1
              obtain ⟨w2, HW2⟩ : ∃ x, Hid (w1.alloc (.cells #[.int .i64 c.1, .string (str c.2)] 32) = x) := ⟨_, Lib.hid rfl⟩
              obtain ⟨p2, Hp2⟩ : ∃ x, Hid (w1.heap.size = x) := ⟨_, Lib.hid rfl⟩
              have B12 : Hid (Below w1.heap.size w1 w2) := Lib.hid (by rw [← HW2.out]; exact balloc (Below.refl _ _) _)
              have C2 : Hid (IsG w2 2 encC (some ⟨p2, 0, none⟩) 1 [c]) := Lib.hid (by rw [← HW2.out, ← Hp2.out]; exact ch_one w1 c _)
              have B2 := Lib.hid (bnext B1.out B12.out)
              obtain ⟨v3, w3, hr3, r3, a3⟩ := appG chInf encC_ok (R1.out.below B12.out) (c := 1) C2.out (by rw [List.length_take]; omega) (by decide) 30
              have Hr3 := Lib.hid hr3
              have R3 := Lib.hid r3
              have B3 : Hid (Below wq.heap.size wq w3) := Lib.hid (Mod.below B2.out a3.mod B2.out.size N1.out)
              have N3 : Hid (∀ g', blk v3 = some g' → wq.heap.size ≤ g') := Lib.hid (fun g' hg' => by
                rcases a3.blk with e | ⟨g'', e, h'⟩
                · rw [e] at hg'; exact N1.out g' hg'
                · rw [e] at hg'; injection hg' with hg'; have := B2.out.size; omega)
              clear hr3 r3 a3
              obtain ⟨A5, HA5⟩ : ∃ x, Hid ((some (⟨g, off + f * 2, none⟩ : Addr)) = x) := ⟨_, Lib.hid rfl⟩
              have D5 : Hid (IsG w3 2 encC A5 (k - f) (l.drop f)) := Lib.hid ((Gq.out.below B3.out).drop hf2 _ (fun h => by rw [← HA5.out]; ))
              obtain ⟨v5, w5, hr5, r5, a5⟩ := appG chInf encC_ok R3.out (c := cp - f) D5.out (by rw [List.length_append, List.length_take]; simp; omega) (by decide) 30
              have Hr5 := Lib.hid hr5
              have R5 : Hid (RG w5 2 encC v5 (putV l c)) := Lib.hid (by rw [HF.out]; rw [List.append_assoc] at r5; exact r5)
              have B5 : Hid (Below wq.heap.size wq w5) := Lib.hid (Mod.below B3.out a5.mod B3.out.size N3.out)
              have N5 : Hid (∀ g', blk v5 = some g' → wq.heap.size ≤ g') := Lib.hid (fun g' hg' => by
                rcases a5.blk with e | ⟨g'', e, h'⟩
                · rw [e] at hg'; exact N3.out g' hg'
                · rw [e] at hg'; injection hg' with hg'; have := B3.out.size; omega)
              clear hr5 r5 a5
              go_wp2_with (first | (at_builtin; refine wpList_append_run rfl (.tmp 53) (.tmp 56) 30 rfl (by exact Hr1.out) ?_) | (at_builtin; rw [HW2.out, Hp2.out]; refine wpList_append_run rfl (.tmp 58) (.tmp 60) 30 rfl (by exact Hr3.out) ?_) | (at_builtin; rw [HA5.out]; refine wpList_append_run rfl (.tmp 62) (.tmp 65) 30 rfl (by exact Hr5.out) ?_))
              go_ret
              exact ⟨v5, rfl, R5.out, fun g' hg' => by have := N5.out g' hg'; have := (bnext B0.out BQ.out).size; omega, bnext (bnext B0.out BQ.out) B5.out⟩
          · obtain rfl : f = k := by omega
            have hfI : ¬ (f : Int) < (f : Int) := by omega
            have HF : Hid (putV l c = l.take f ++ c :: l.drop f) := Lib.hid (putV_gt HE.out ((gtAt_none (by rw [Hn.out]; exact HP.out)).trans Hn.out))
            clear HP
            go_wp2_with fail
            refine wp_region_mix (by kernel_rfl) (Cls (Abv wr)) [(0, 0), (1, 0), (2, 0), (3, 0), (4, 0), (5, 0), (6, 0), (7, 0), (8, 0), (9, 0), (10, 0), (11, 0), (12, 0), (13, 0)] (by kernel_rfl) (cls (Below.refl _ wr).drew) ?_
            repeat (refine mix0 rfl (fun K hK => ?_); go_simp; refine hK _ ?_; clear hK K)
            refine mixEnd ?_
            obtain ⟨wq, HWq⟩ : ∃ x, Hid (wr.drew = x) := ⟨_, Lib.hid rfl⟩
            have BQ : Hid (Below w0.heap.size w0 wq) := Lib.hid (by rw [← HWq.out]; exact HB.out.drew)
            rw [HWq.out]
            have Gq := Lib.hid (G.out.below (bnext B0.out BQ.out))
            have Kq := Lib.hid (K0.out.below BQ.out)
            have hf1 : f ≤ f := by omega
            have hf2 : f ≤ f := by omega
            have hf3 : f ≤ cp := by omega
            have hf4 : f ≤ cp := by omega
            have hf5 : (f : Int) ≤ (cp : Int) := by omega
            have hf6 : ((f : Int) : Int) ≤ (f : Int) := by omega
            obtain ⟨v1, w1, hr1, r1, a1⟩ := appG chInf encC_ok (RG.nil wq 2 encC) (c := cp) (Gq.out.take hf1) (by simp; omega) (by decide) 30
            have Hr1 := Lib.hid hr1
            have R1 : Hid (RG w1 2 encC v1 (l.take f)) := Lib.hid (by rw [List.nil_append] at r1; exact r1)
            have B1 : Hid (Below wq.heap.size wq w1) := Lib.hid (a1.mod.to_below (fun g' _ hg' => by cases hg'))
            have N1 : Hid (∀ g', blk v1 = some g' → wq.heap.size ≤ g') := Lib.hid (fun g' hg' => by
              rcases a1.blk with e | ⟨g'', e, h'⟩
              · rw [e] at hg'; cases hg'
              · rw [e] at hg'; injection hg' with hg'; omega)
            clear hr1 r1 a1
            have K1 := Lib.hid (Kq.out.below B1.out)
            have d0 := K1.out.c0
            have d1 := K1.out.c1
            obtain ⟨w2, HW2⟩ : ∃ x, Hid (w1.alloc (.cells #[.int .i64 c.1, .string (str c.2)] 32) = x) := ⟨_, Lib.hid rfl⟩
            obtain ⟨p2, Hp2⟩ : ∃ x, Hid (w1.heap.size = x) := ⟨_, Lib.hid rfl⟩
            have B12 : Hid (Below w1.heap.size w1 w2) := Lib.hid (by rw [← HW2.out]; exact balloc (Below.refl _ _) _)
            have C2 : Hid (IsG w2 2 encC (some ⟨p2, 0, none⟩) 1 [c]) := Lib.hid (by rw [← HW2.out, ← Hp2.out]; exact ch_one w1 c _)
            have B2 := Lib.hid (bnext B1.out B12.out)
            obtain ⟨v3, w3, hr3, r3, a3⟩ := appG chInf encC_ok (R1.out.below B12.out) (c := 1) C2.out (by rw [List.length_take]; omega) (by decide) 30
            have Hr3 := Lib.hid hr3
            have R3 := Lib.hid r3
            have B3 : Hid (Below wq.heap.size wq w3) := Lib.hid (Mod.below B2.out a3.mod B2.out.size N1.out)
            have N3 : Hid (∀ g', blk v3 = some g' → wq.heap.size ≤ g') := Lib.hid (fun g' hg' => by
              rcases a3.blk with e | ⟨g'', e, h'⟩
              · rw [e] at hg'; exact N1.out g' hg'
              · rw [e] at hg'; injection hg' with hg'; have := B2.out.size; omega)
            clear hr3 r3 a3
            obtain ⟨A5, HA5⟩ : ∃ x, Hid ((if cp = f then some (⟨g, off, none⟩ : Addr) else some ⟨g, off + f * 2, none⟩) = x) := ⟨_, Lib.hid rfl⟩
            have D5 : Hid (IsG w3 2 encC A5 0 (l.drop f)) := Lib.hid (by have h := (Gq.out.below B3.out).drop hf2 A5 (fun h => by omega); rwa [Nat.sub_self] at h)
            obtain ⟨v5, w5, hr5, r5, a5⟩ := appG chInf encC_ok R3.out (c := cp - f) D5.out (by rw [List.length_append, List.length_take]; simp; omega) (by decide) 30
            have Hr5 := Lib.hid hr5
            have R5 : Hid (RG w5 2 encC v5 (putV l c)) := Lib.hid (by rw [HF.out]; rw [List.append_assoc] at r5; exact r5)
            have B5 : Hid (Below wq.heap.size wq w5) := Lib.hid (Mod.below B3.out a5.mod B3.out.size N3.out)
            have N5 : Hid (∀ g', blk v5 = some g' → wq.heap.size ≤ g') := Lib.hid (fun g' hg' => by
              rcases a5.blk with e | ⟨g'', e, h'⟩
              · rw [e] at hg'; exact N3.out g' hg'
              · rw [e] at hg'; injection hg' with hg'; have := B3.out.size; omega)
            clear hr5 r5 a5
            go_wp2_with (first | (at_builtin; refine wpList_append_run rfl (.tmp 53) (.tmp 56) 30 rfl (by exact Hr1.out) ?_) | (at_builtin; rw [HW2.out, Hp2.out]; refine wpList_append_run rfl (.tmp 58) (.tmp 60) 30 rfl (by exact Hr3.out) ?_) | (at_builtin; rw [HA5.out]; refine wpList_append_run rfl (.tmp 62) (.tmp 65) 30 rfl (by exact Hr5.out) ?_))
            go_ret
            exact ⟨v5, rfl, R5.out, fun g' hg' => by have := N5.out g' hg'; have := (bnext B0.out BQ.out).size; omega, bnext (bnext B0.out BQ.out) B5.out⟩
end Go.Proofs.YtgncmgchoogmpaaDoor
