/- What package inode and the document give of needs and pieces, at this translation. -/
import Derived.Test.YtdlbibhekoobjaaIp14
import Derived.Test.YtdlbibhekoobjaaGs11
import Derived.Deep.CutBlock
import Derived.Deep.DeepCutAuto
namespace Go.Proofs.Ytdlbibhekoobjaa
open Go.RowKit

theorem wf64 {n : Int} (h : (Lit.int .i64 n).wf = true) : -9223372036854775808 ≤ n ∧ n ≤ 9223372036854775807 := by
  have h2 : IntKind.i64.min = -9223372036854775808 := by decide
  have h3 : IntKind.i64.max = 9223372036854775807 := by decide
  simp [Lit.wf, h2, h3] at h
  exact h
theorem Need_any (n : Int) (hn : (Lit.int .i64 n).wf = true) (w : World) :
    Calls Try.prog 22 #[.int .i64 n] w fun e w' => e = .returned (.int .i64 (needI n)) ∧ w = w' := by
  obtain ⟨g0, g1⟩ := wf64 hn
  clear hn
  by_cases h : n < 1
  · rw [needI_lo h]
    go_enter Try.func22, Try.ntmps22
    go_wp2
    go_ret
    exact ⟨rfl, rfl⟩
  · rw [needI_hi h]
    go_enter Try.func22, Try.ntmps22
    go_wp2
    all_goals
      go_ret
      exact ⟨ret_int (by omega), rfl⟩
theorem XNeed_any (n : Int) (hn : (Lit.int .i64 n).wf = true) (w : World) :
    Calls Try.prog 23 #[.int .i64 n] w fun e w' => e = .returned (.int .i64 (needI n)) ∧ w = w' := by
  obtain ⟨g0, g1⟩ := wf64 hn
  clear hn
  by_cases h : n < 1
  · rw [needI_lo h]
    go_enter Try.func23, Try.ntmps23
    go_wp2
    go_ret
    exact ⟨rfl, rfl⟩
  · rw [needI_hi h]
    go_enter Try.func23, Try.ntmps23
    go_wp2
    all_goals
      go_ret
      exact ⟨ret_int (by omega), rfl⟩
def encP (p : Pc) : List Value := [.int .i64 (p.1 : Int), .int .i64 (p.2.1 : Int), .int .i64 (p.2.2 : Int)]
theorem encP_ok : Enc 3 encP := ⟨fun _ => rfl, by intro a u hu; simp [encP] at hu; rcases hu with rfl | rfl | rfl <;> rfl, by decide⟩
theorem pcInfo0 : (Try.prog.info? 41).map (fun i => (i.zero, i.size, i.bytes)) = some (some (.agg #[.int .i64 0, .int .i64 0, .int .i64 0]), 3, 24) := by kernel_rfl
theorem pcInf : Inf 37 41 3 24 := ⟨Try.underlying37, by
  have h := pcInfo0
  cases hq : Try.prog.info? 41 with
  | none => rw [hq] at h; cases h
  | some i0 =>
    rw [hq] at h
    simp only [Option.map_some, Option.some.injEq, Prod.mk.injEq] at h
    exact ⟨i0, _, rfl, h.1, h.2.1, h.2.2, rfl⟩⟩
theorem pc_one (w : World) (p : Pc) (ty : TypeId) : IsG (w.alloc (.cells #[.int .i64 (p.1 : Int), .int .i64 (p.2.1 : Int), .int .i64 (p.2.2 : Int)] ty)) 3 encP (some ⟨w.heap.size, 0, none⟩) 1 [p] :=
  IsG.one (by simp) (fun j u hu => by
    rw [World.cell?_alloc_at _ _ _ _ rfl]
    match j, hu with
    | 0, hu => simpa [encP] using hu
    | 1, hu => simpa [encP] using hu
    | 2, hu => simpa [encP] using hu
    | j + 3, hu => simp [encP] at hu)
set_option maxRecDepth 100000 in
set_option maxHeartbeats 2000000 in
theorem Pieces_any (f t : Int) (w : World) :
    Calls Try.prog 20 #[.int .i64 f, .int .i64 t] w fun e w' => ∃ v, e = .returned v ∧ RG w' 3 encP v (pieces f t) ∧ (∀ g, blk v = some g → w.heap.size ≤ g) ∧ Below w.heap.size w w' := by
  obtain ⟨F, HF⟩ : ∃ x, Hid (clampF f = x) := ⟨_, Lib.hid rfl⟩
  obtain ⟨T, HT⟩ : ∃ x, Hid (clampT f t = x) := ⟨_, Lib.hid rfl⟩
  have hle := clamp_le f t
  have Hr : Hid (pieces f t = pcs F T) := Lib.hid (by rw [pieces, HF.out, HT.out])
  rw [HF.out, HT.out] at hle
  obtain ⟨hle, ht⟩ := hle
  obtain ⟨m0, Hm0⟩ : ∃ x, Hid ((if f < 0 then 0 else f) = x) := ⟨_, Lib.hid rfl⟩
  have Hf1 : Hid ((if 6144 < m0 then 6144 else m0) = (F : Int)) := Lib.hid (by
    have := HF.out; unfold clampF at this
    rw [← Hm0.out]
    by_cases h : f < 0
    · simp only [if_pos h]; omega
    · simp only [if_neg h]
      by_cases h2 : 6144 < f
      · rw [if_pos h2]; omega
      · rw [if_neg h2]; omega)
  obtain ⟨m1, Hm1⟩ : ∃ x, Hid ((if t < (F : Int) then (F : Int) else t) = x) := ⟨_, Lib.hid rfl⟩
  have Ht1 : Hid ((if 6144 < m1 then 6144 else m1) = (T : Int)) := Lib.hid (by
    have := HT.out; have h2 := HF.out; unfold clampT at this; rw [h2] at this
    rw [← Hm1.out]
    by_cases h : t < (F : Int)
    · simp only [if_pos h]
      by_cases h2 : 6144 < (F : Int)
      · rw [if_pos h2]; omega
      · rw [if_neg h2]; omega
    · simp only [if_neg h]
      by_cases h2 : 6144 < t
      · rw [if_pos h2]; omega
      · rw [if_neg h2]; omega)
  rw [Hr.out]
  go_enter Try.func20, Try.ntmps20
  go_wp2
  go_step3
  go_upto_region 3 with fail
  rw [Hm0.out, Hf1.out, Hm1.out, Ht1.out]
  go_wp2
  go_step3
  go_wp2_with fail
  go_loopw [5, 16] (fun o i wr => ∃ (k : Nat) (v : Value), k ≤ 12 ∧ o = v ∧ i = .int .i64 k ∧ Hid (RG wr 3 encP v (pcs F (min T (512 * k)))) ∧ Hid (∀ g, blk v = some g → w.heap.size ≤ g) ∧ Hid (Below w.heap.size w wr)) (fun _ i _ => 12 - (intOf i).toNat)
  case atStart => exact ⟨0, _, by omega, rfl, rfl, Lib.hid (by rw [pcs_none (by omega)]; exact RG.nil _ _ _), Lib.hid (fun g hg => by cases hg), Lib.hid (Below.refl _ _)⟩
  case round =>
    obtain ⟨k, v, hk, rfl, rfl, HR, HN, HB⟩ := hrel
    by_cases hlt : k < 12
    · have hltI : (k : Int) < 12 := by omega
      -- ROUND
      by_cases hbr : T ≤ 512 * k
      · have h0 : (T : Int) - (k : Int) * 512 ≤ 0 := by omega
        have Hend : Hid (pcs F (min T (512 * k)) = pcs F T) := Lib.hid (pcs_end hbr)
        have HB2 : Hid (∀ o, Below w.heap.size w (wr.alloc o)) := Lib.hid (fun o => balloc HB.out o)
        have HR2 : Hid (∀ o, RG (wr.alloc o) 3 encP u5 (pcs F T)) := Lib.hid (fun o => by rw [← Hend.out]; exact HR.out.below (balloc (Below.refl _ _) o))
        by_cases hfs : (F : Int) - (k : Int) * 512 < 0
        · go_wp2
          try rw [Exit.noGoto_ret]
          go_ret
          exact ⟨_, rfl, HR2.out _, HN.out, HB2.out _⟩
        · go_wp2
          try rw [Exit.noGoto_ret]
          go_ret
          exact ⟨_, rfl, HR2.out _, HN.out, HB2.out _⟩
      · by_cases hf : F < 512 * k
        · by_cases hts : T - 512 * k ≤ 512
          · have hfs : (F : Int) - (k : Int) * 512 < 0 := by omega
            have hx0 : F - 512 * k = 0 := by omega
            obtain ⟨y, Hy⟩ : ∃ y, Hid (T - 512 * k = y) := ⟨_, Lib.hid rfl⟩
            have hy : (T : Int) - (k : Int) * 512 = (y : Int) := by have := Hy.out; omega
            have hy1 : 0 < y := by have := Hy.out; omega
            have hy2 : y ≤ 512 := by have := Hy.out; omega
            have Hmn : Hid (min (T - 512 * k) 512 = y) := Lib.hid (by have := Hy.out; omega)
            have hst := pcs_round F T k (by omega)
            rw [Hmn.out, hx0] at hst
            by_cases hlt3 : 0 < y
            · rw [if_pos hlt3] at hst
              have hI : (0 : Int) < (y : Int) := by omega
              have Hst := Lib.hid hst
              clear hst hlt3
              obtain ⟨W2, HW2⟩ : ∃ z, Hid ((wr.alloc (.cells #[.int .i64 (k : Int), .int .i64 0, .int .i64 (y : Int)] 41)).alloc (.cells #[.int .i64 (k : Int), .int .i64 0, .int .i64 (y : Int)] 41) = z) := ⟨_, Lib.hid rfl⟩
              have B2 : Hid (Below wr.heap.size wr W2) := Lib.hid (by rw [← HW2.out]; exact balloc (balloc (Below.refl _ wr) _) _)
              obtain ⟨q, Hq⟩ : ∃ z, Hid (wr.heap.size + 1 = z) := ⟨_, Lib.hid rfl⟩
              have G2 : Hid (IsG W2 3 encP (some ⟨q, 0, none⟩) 1 [(k, 0, y)]) := Lib.hid (by
                have h := pc_one (wr.alloc (.cells #[.int .i64 (k : Int), .int .i64 0, .int .i64 (y : Int)] 41)) (k, 0, y) 41
                rw [show (wr.alloc (.cells #[.int .i64 (k : Int), .int .i64 0, .int .i64 (y : Int)] 41)).heap.size = q by rw [← Hq.out]; simp] at h
                rw [← HW2.out]; exact h)
              have hlen : (pcs F (min T (512 * k))).length + 1 ≤ 100000 := by have := pcs_length_le (f := F) (t := min T (512 * k)) (by omega); omega
              obtain ⟨T6, w6, hr6, r6, a6⟩ := appG pcInf encP_ok (HR.out.below B2.out) (c := 1) G2.out hlen (by decide) 37
              have Hr6 := Lib.hid hr6
              have HR6 : Hid (RG w6 3 encP T6 (pcs F (min T (512 * (k + 1))))) := Lib.hid (by rw [Hst.out]; exact r6)
              have HN6 : Hid (∀ g, blk T6 = some g → w.heap.size ≤ g) := Lib.hid (fun g hg => by
                rcases a6.blk with e | ⟨g', e, h'⟩
                · exact HN.out g (e ▸ hg)
                · rw [e] at hg; injection hg with hg; have := B2.out.size; have := HB.out.size; omega)
              have HB6 : Hid (Below w.heap.size w w6) := Lib.hid (Mod.below (bnext HB.out B2.out) a6.mod (bnext HB.out B2.out).size (fun g hg => HN.out g hg))
              clear hr6 r6 a6 hlen
              go_wp2_with (at_builtin; rw [HW2.out, Hq.out]; refine wpList_append_run rfl (.tmp 41) (.tmp 43) 37 rfl (by exact Hr6.out) ?_)
              go_roundw
              case rel => exact ⟨k + 1, T6, by omega, rfl, by go_num, HR6, HN6, HB6⟩
              case measure => simp [intOf]; omega
            · rw [if_neg hlt3] at hst
              omega
          · have hfs : (F : Int) - (k : Int) * 512 < 0 := by omega
            have hx0 : F - 512 * k = 0 := by omega
            have hy : 512 < (T : Int) - (k : Int) * 512 := by omega
            have Hmn : Hid (min (T - 512 * k) 512 = 512) := Lib.hid (by omega)
            have hst := pcs_round F T k (by omega)
            rw [Hmn.out, hx0] at hst
            by_cases hlt3 : 0 < 512
            · rw [if_pos hlt3] at hst
              have Hst := Lib.hid hst
              clear hst hlt3
              have hy0 : (0 : Int) < 512 := by decide
              obtain ⟨W2, HW2⟩ : ∃ z, Hid ((wr.alloc (.cells #[.int .i64 (k : Int), .int .i64 0, .int .i64 512] 41)).alloc (.cells #[.int .i64 (k : Int), .int .i64 0, .int .i64 512] 41) = z) := ⟨_, Lib.hid rfl⟩
              have B2 : Hid (Below wr.heap.size wr W2) := Lib.hid (by rw [← HW2.out]; exact balloc (balloc (Below.refl _ wr) _) _)
              obtain ⟨q, Hq⟩ : ∃ z, Hid (wr.heap.size + 1 = z) := ⟨_, Lib.hid rfl⟩
              have G2 : Hid (IsG W2 3 encP (some ⟨q, 0, none⟩) 1 [(k, 0, 512)]) := Lib.hid (by
                have h := pc_one (wr.alloc (.cells #[.int .i64 (k : Int), .int .i64 0, .int .i64 512] 41)) (k, 0, 512) 41
                rw [show (wr.alloc (.cells #[.int .i64 (k : Int), .int .i64 0, .int .i64 512] 41)).heap.size = q by rw [← Hq.out]; simp] at h
                rw [← HW2.out]; exact h)
              have hlen : (pcs F (min T (512 * k))).length + 1 ≤ 100000 := by have := pcs_length_le (f := F) (t := min T (512 * k)) (by omega); omega
              obtain ⟨T6, w6, hr6, r6, a6⟩ := appG pcInf encP_ok (HR.out.below B2.out) (c := 1) G2.out hlen (by decide) 37
              have Hr6 := Lib.hid hr6
              have HR6 : Hid (RG w6 3 encP T6 (pcs F (min T (512 * (k + 1))))) := Lib.hid (by rw [Hst.out]; exact r6)
              have HN6 : Hid (∀ g, blk T6 = some g → w.heap.size ≤ g) := Lib.hid (fun g hg => by
                rcases a6.blk with e | ⟨g', e, h'⟩
                · exact HN.out g (e ▸ hg)
                · rw [e] at hg; injection hg with hg; have := B2.out.size; have := HB.out.size; omega)
              have HB6 : Hid (Below w.heap.size w w6) := Lib.hid (Mod.below (bnext HB.out B2.out) a6.mod (bnext HB.out B2.out).size (fun g hg => HN.out g hg))
              clear hr6 r6 a6 hlen
              go_wp2_with (at_builtin; rw [HW2.out, Hq.out]; refine wpList_append_run rfl (.tmp 41) (.tmp 43) 37 rfl (by exact Hr6.out) ?_)
              go_roundw
              case rel => exact ⟨k + 1, T6, by omega, rfl, by go_num, HR6, HN6, HB6⟩
              case measure => simp [intOf]; omega
            · rw [if_neg hlt3] at hst
              omega
        · by_cases hts : T - 512 * k ≤ 512
          · obtain ⟨x, Hx⟩ : ∃ x, Hid (F - 512 * k = x) := ⟨_, Lib.hid rfl⟩
            have hx : (F : Int) - (k : Int) * 512 = (x : Int) := by have := Hx.out; omega
            obtain ⟨y, Hy⟩ : ∃ y, Hid (T - 512 * k = y) := ⟨_, Lib.hid rfl⟩
            have hy : (T : Int) - (k : Int) * 512 = (y : Int) := by have := Hy.out; omega
            have hy1 : 0 < y := by have := Hy.out; omega
            have hy2 : y ≤ 512 := by have := Hy.out; omega
            have Hmn : Hid (min (T - 512 * k) 512 = y) := Lib.hid (by have := Hy.out; omega)
            have hst := pcs_round F T k (by omega)
            rw [Hmn.out, Hx.out] at hst
            by_cases hlt3 : x < y
            · rw [if_pos hlt3] at hst
              have hI : ((x : Int) : Int) < (y : Int) := by omega
              have Hst := Lib.hid hst
              clear hst hlt3
              obtain ⟨W2, HW2⟩ : ∃ z, Hid ((wr.alloc (.cells #[.int .i64 (k : Int), .int .i64 (x : Int), .int .i64 (y : Int)] 41)).alloc (.cells #[.int .i64 (k : Int), .int .i64 (x : Int), .int .i64 (y : Int)] 41) = z) := ⟨_, Lib.hid rfl⟩
              have B2 : Hid (Below wr.heap.size wr W2) := Lib.hid (by rw [← HW2.out]; exact balloc (balloc (Below.refl _ wr) _) _)
              obtain ⟨q, Hq⟩ : ∃ z, Hid (wr.heap.size + 1 = z) := ⟨_, Lib.hid rfl⟩
              have G2 : Hid (IsG W2 3 encP (some ⟨q, 0, none⟩) 1 [(k, x, y)]) := Lib.hid (by
                have h := pc_one (wr.alloc (.cells #[.int .i64 (k : Int), .int .i64 (x : Int), .int .i64 (y : Int)] 41)) (k, x, y) 41
                rw [show (wr.alloc (.cells #[.int .i64 (k : Int), .int .i64 (x : Int), .int .i64 (y : Int)] 41)).heap.size = q by rw [← Hq.out]; simp] at h
                rw [← HW2.out]; exact h)
              have hlen : (pcs F (min T (512 * k))).length + 1 ≤ 100000 := by have := pcs_length_le (f := F) (t := min T (512 * k)) (by omega); omega
              obtain ⟨T6, w6, hr6, r6, a6⟩ := appG pcInf encP_ok (HR.out.below B2.out) (c := 1) G2.out hlen (by decide) 37
              have Hr6 := Lib.hid hr6
              have HR6 : Hid (RG w6 3 encP T6 (pcs F (min T (512 * (k + 1))))) := Lib.hid (by rw [Hst.out]; exact r6)
              have HN6 : Hid (∀ g, blk T6 = some g → w.heap.size ≤ g) := Lib.hid (fun g hg => by
                rcases a6.blk with e | ⟨g', e, h'⟩
                · exact HN.out g (e ▸ hg)
                · rw [e] at hg; injection hg with hg; have := B2.out.size; have := HB.out.size; omega)
              have HB6 : Hid (Below w.heap.size w w6) := Lib.hid (Mod.below (bnext HB.out B2.out) a6.mod (bnext HB.out B2.out).size (fun g hg => HN.out g hg))
              clear hr6 r6 a6 hlen
              go_wp2_with (at_builtin; rw [HW2.out, Hq.out]; refine wpList_append_run rfl (.tmp 41) (.tmp 43) 37 rfl (by exact Hr6.out) ?_)
              go_roundw
              case rel => exact ⟨k + 1, T6, by omega, rfl, by go_num, HR6, HN6, HB6⟩
              case measure => simp [intOf]; omega
            · rw [if_neg hlt3] at hst
              have hI : ((y : Int) : Int) ≤ (x : Int) := by omega
              have HR6 : Hid (∀ o, RG (wr.alloc o) 3 encP u5 (pcs F (min T (512 * (k + 1))))) := Lib.hid (fun o => by rw [hst]; exact HR.out.below (balloc (Below.refl _ _) o))
              have HB6 : Hid (∀ o, Below w.heap.size w (wr.alloc o)) := Lib.hid (fun o => balloc HB.out o)
              clear hst hlt3
              go_wp2
              go_roundw
              case rel => exact ⟨k + 1, u5, by omega, rfl, by go_num, Lib.hid (HR6.out _), HN, Lib.hid (HB6.out _)⟩
              case measure => simp [intOf]; omega
          · obtain ⟨x, Hx⟩ : ∃ x, Hid (F - 512 * k = x) := ⟨_, Lib.hid rfl⟩
            have hx : (F : Int) - (k : Int) * 512 = (x : Int) := by have := Hx.out; omega
            have hy : 512 < (T : Int) - (k : Int) * 512 := by omega
            have Hmn : Hid (min (T - 512 * k) 512 = 512) := Lib.hid (by omega)
            have hst := pcs_round F T k (by omega)
            rw [Hmn.out, Hx.out] at hst
            by_cases hlt3 : x < 512
            · rw [if_pos hlt3] at hst
              have hI : ((x : Int) : Int) < 512 := by omega
              have Hst := Lib.hid hst
              clear hst hlt3
              have hy0 : (0 : Int) < 512 := by decide
              obtain ⟨W2, HW2⟩ : ∃ z, Hid ((wr.alloc (.cells #[.int .i64 (k : Int), .int .i64 (x : Int), .int .i64 512] 41)).alloc (.cells #[.int .i64 (k : Int), .int .i64 (x : Int), .int .i64 512] 41) = z) := ⟨_, Lib.hid rfl⟩
              have B2 : Hid (Below wr.heap.size wr W2) := Lib.hid (by rw [← HW2.out]; exact balloc (balloc (Below.refl _ wr) _) _)
              obtain ⟨q, Hq⟩ : ∃ z, Hid (wr.heap.size + 1 = z) := ⟨_, Lib.hid rfl⟩
              have G2 : Hid (IsG W2 3 encP (some ⟨q, 0, none⟩) 1 [(k, x, 512)]) := Lib.hid (by
                have h := pc_one (wr.alloc (.cells #[.int .i64 (k : Int), .int .i64 (x : Int), .int .i64 512] 41)) (k, x, 512) 41
                rw [show (wr.alloc (.cells #[.int .i64 (k : Int), .int .i64 (x : Int), .int .i64 512] 41)).heap.size = q by rw [← Hq.out]; simp] at h
                rw [← HW2.out]; exact h)
              have hlen : (pcs F (min T (512 * k))).length + 1 ≤ 100000 := by have := pcs_length_le (f := F) (t := min T (512 * k)) (by omega); omega
              obtain ⟨T6, w6, hr6, r6, a6⟩ := appG pcInf encP_ok (HR.out.below B2.out) (c := 1) G2.out hlen (by decide) 37
              have Hr6 := Lib.hid hr6
              have HR6 : Hid (RG w6 3 encP T6 (pcs F (min T (512 * (k + 1))))) := Lib.hid (by rw [Hst.out]; exact r6)
              have HN6 : Hid (∀ g, blk T6 = some g → w.heap.size ≤ g) := Lib.hid (fun g hg => by
                rcases a6.blk with e | ⟨g', e, h'⟩
                · exact HN.out g (e ▸ hg)
                · rw [e] at hg; injection hg with hg; have := B2.out.size; have := HB.out.size; omega)
              have HB6 : Hid (Below w.heap.size w w6) := Lib.hid (Mod.below (bnext HB.out B2.out) a6.mod (bnext HB.out B2.out).size (fun g hg => HN.out g hg))
              clear hr6 r6 a6 hlen
              go_wp2_with (at_builtin; rw [HW2.out, Hq.out]; refine wpList_append_run rfl (.tmp 41) (.tmp 43) 37 rfl (by exact Hr6.out) ?_)
              go_roundw
              case rel => exact ⟨k + 1, T6, by omega, rfl, by go_num, HR6, HN6, HB6⟩
              case measure => simp [intOf]; omega
            · rw [if_neg hlt3] at hst
              have hI : (512 : Int) ≤ (x : Int) := by omega
              have HR6 : Hid (∀ o, RG (wr.alloc o) 3 encP u5 (pcs F (min T (512 * (k + 1))))) := Lib.hid (fun o => by rw [hst]; exact HR.out.below (balloc (Below.refl _ _) o))
              have HB6 : Hid (∀ o, Below w.heap.size w (wr.alloc o)) := Lib.hid (fun o => balloc HB.out o)
              clear hst hlt3
              have hy0 : (0 : Int) < 512 := by decide
              go_wp2
              go_roundw
              case rel => exact ⟨k + 1, u5, by omega, rfl, by go_num, Lib.hid (HR6.out _), HN, Lib.hid (HB6.out _)⟩
              case measure => simp [intOf]; omega
    · obtain rfl : k = 12 := by omega
      have Hend : Hid (pcs F (min T (512 * 12)) = pcs F T) := Lib.hid (pcs_end (by omega))
      rw [Hend.out] at HR
      go_wp2
      try rw [Exit.noGoto_ret]
      go_ret
      exact ⟨_, rfl, HR.out, HN.out, HB.out⟩
end Go.Proofs.Ytdlbibhekoobjaa
