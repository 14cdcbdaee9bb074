/- The first claims struck out of a row; a row cloned. -/
import Derived.Test.YthpmodohfjjjcaaFn9
namespace Go.Proofs.Ythpmodohfjjjcaa
open Go.RowKit

/-- Worlds where block g alone has turned. -/
abbrev Mdv (w : World) (g : Nat) : World → Prop := fun u => Mod (· = g) w u
instance (w : World) (g : Nat) : Nonempty (In (Mdv w g)) := ⟨⟨w, Mod.refl _ _⟩⟩
theorem infoCl : ∃ i0, Try.prog.info? 61 = some i0 ∧ i0.zero = some (.agg #[.int .i64 0, .int .i64 0]) ∧ i0.size = 2 ∧ i0.bytes = 16 := by
  have h := infoC
  cases hq : Try.prog.info? 61 with
  | none => rw [hq] at h; cases h
  | some i0 =>
    rw [hq] at h
    simp only [Option.map_some, Option.some.injEq, Prod.mk.injEq] at h
    exact ⟨i0, rfl, h.1, h.2.1, h.2.2⟩
set_option maxRecDepth 100000 in
set_option maxHeartbeats 2000000 in
theorem Delete_any (w : World) (v : Value) (l : List Cl) (h : RC w v l) (j : Nat) (hj : j ≤ l.length) :
    Calls Try.prog 96 #[v, .int .i64 0, .int .i64 (j : Int)] w fun e w' => ∃ v', e = .returned v' ∧ RC w' v' (l.drop j) ∧ blk v' = blk v ∧ Mod (fun g => blk v = some g) w w' := by
  have H := Lib.hid h
  have hmx := h.max
  unfold maxLen at hmx
  rcases h.is with ⟨rfl, rfl⟩ | ⟨g, off, cap, rfl, hcs⟩
  · obtain rfl : j = 0 := by simpa using hj
    clear h
    go_enter Try.func96, Try.ntmps96
    go_wp2
    go_ret
    exact ⟨_, rfl, RC.nil _, rfl, Mod.refl _ _⟩
  · have hcc := hcs.len
    have hmc := hcs.max
    unfold maxLen at hmc
    have Hcs := Lib.hid hcs
    obtain ⟨n, Hn⟩ : ∃ n, Hid (l.length = n) := ⟨_, Lib.hid rfl⟩
    rw [Hn.out] at hj hcc hmx ⊢
    by_cases h0 : j = 0
    · subst h0
      clear h hcs
      go_enter Try.func96, Try.ntmps96
      go_wp2
      go_ret
      refine ⟨.slice (some ⟨g, off, none⟩) n cap, rfl, ?_, rfl, Mod.refl _ _⟩
      have := H.out
      rw [Hn.out] at this
      exact this
    · have hj0 : ¬ ((0 : Int) = (j : Int)) := by omega
      have hj1 : ¬ ((j : Int) = 0) := by omega
      obtain ⟨i0, hi0, hz0, hz1, hz2⟩ := infoCl
      have hdl : (l.drop j).length = n - j := by rw [List.length_drop, Hn.out]
      have hE : ∀ ty, (Builtin.append_ #[55, 55] ty #[.slice (some ⟨g, off, none⟩) 0 cap, .slice (if cap = j then some ⟨g, off, none⟩ else some ⟨g, off + j * 2, none⟩) (n - j) (cap - j)]).run Try.prog w.drew = .ok (.slice (some ⟨g, off, none⟩) (n - j) cap) (w.drew.setCells g off (cls2 (l.drop j))) := by
        intro ty
        have hl2 : (cls2 (l.drop j)).length = (n - j) * i0.size := by rw [cls2_length, hdl, hz1]
        have key : ∀ ad : Addr, (∀ (q : Nat) (u : Value), (cls2 (l.drop j))[q]? = some u → w.drew.cell? (ad.add q) = some u) → (Builtin.append_ #[55, 55] ty #[.slice (some ⟨g, off, none⟩) 0 cap, .slice (some ad) (n - j) (cap - j)]).run Try.prog w.drew = .ok (.slice (some ⟨g, off, none⟩) (n - j) cap) (w.drew.setCells g off (cls2 (l.drop j))) := fun ad hs => by
          have := run_append_room_cells (P := Try.prog) w.drew 55 ty 61 i0 Try.underlying55 hi0 g off 0 cap ad (n - j) (cap - j) (cls2 (l.drop j)) hl2 hs (cls2_cells _) (by omega)
            (fun q hq => by rw [hl2, hz1] at hq; rw [Nat.zero_mul, Nat.add_zero]; exact hcs.there _ (by omega)) (fun q hq => by rw [hl2, hz1] at hq; rw [Nat.zero_mul, Nat.add_zero]; exact hcs.free _ (by omega))
          rw [Nat.zero_mul, Nat.add_zero, Nat.zero_add] at this
          exact this
        split
        · refine key _ (fun q u hu => ?_)
          have := (List.getElem?_eq_some_iff.1 hu).1
          rw [cls2_length, hdl] at this
          omega
        · refine key _ (fun q u hu => ?_)
          have hq := (List.getElem?_eq_some_iff.1 hu).1
          rw [cls2_length, hdl] at hq
          have hr := h.row.is
          rcases hr with ⟨e, _⟩ | ⟨g', off', cap', e, _, _, _, hcc', _⟩
          · cases e
          · injection e with e1 e2 e3
            injection e1 with e1
            injection e1 with e1 e4
            subst e1 e4
            rw [add_plain, Nat.add_assoc]
            refine hcc' _ _ ?_
            have hsp : cls2 l = cls2 (l.take j) ++ cls2 (l.drop j) := by rw [← cls2_append, List.take_append_drop]
            rw [hsp, List.getElem?_append_right (by rw [cls2_length, List.length_take]; omega), cls2_length, List.length_take, Hn.out, Nat.min_eq_left hj, Nat.add_sub_cancel_left]
            exact hu
      have HE := Lib.hid hE
      have hclr : ∀ ty, (Builtin.clear_ #[55] ty #[.slice (some ⟨g, off + (n - j) * 2, none⟩) (n - (n - j)) (cap - (n - j))]).run Try.prog (w.drew.setCells g off (cls2 (l.drop j))) = .ok (.tuple #[]) ((w.drew.setCells g off (cls2 (l.drop j))).setCells g (off + (n - j) * 2) (zer j)) := fun ty => by
        rw [show n - (n - j) = j by omega]
        exact run_clear2 _ ty g (off + (n - j) * 2) j (cap - (n - j)) (by omega) (fun q hq => by rw [Nat.add_assoc]; exact cells_some g _ _ _ (hcs.there _ (by omega))) (fun q hq => by rw [cells_frozen, Nat.add_assoc]; exact hcs.free _ (by omega))
      have hp := (hcs.later ((Mod.refl (fun _ => False) w).drew) id).put (k := 0) (by omega) (l.drop j) (by omega)
      rw [List.take_zero, List.nil_append, Nat.zero_mul, Nat.add_zero] at hp
      have hp2 := hp.behind (n - j) (zer j)
      rw [List.take_append_of_le_length (by omega), List.take_of_length_le (by omega)] at hp2
      have hp3 : Cs ((w.drew.setCells g off (cls2 (l.drop j))).setCells g (off + (n - j) * 2) (zer j)) g off cap (l.drop j) := hp2
      have HP := Lib.hid hp3
      have HMM : Hid (Mod (· = g) w ((w.drew.setCells g off (cls2 (l.drop j))).setCells g (off + (n - j) * 2) (zer j))) := Lib.hid (((Mod.refl _ w).drew.trans (cells_mod g _ _ _)).trans (cells_mod g _ _ _))
      have HB1 : Hid (Mdv w g (w.drew.setCells g off (cls2 (l.drop j)))) := Lib.hid ((Mod.refl _ w).drew.trans (cells_mod g _ _ _))
      clear h hcs
      go_enter Try.func96, Try.ntmps96
      go_wp2_with fail
      refine wp_region_mix (by kernel_rfl) (Cls (Mdv w g)) [(0, 0), (1, 0), (2, 0), (3, 0), (4, 0), (5, 0), (6, 1), (7, 0)] (by kernel_rfl) (cls (Mod.refl _ w).drew) ?_
      repeat (refine mix0 rfl (fun K hK => ?_); go_simp; refine hK _ ?_; clear hK K)
      refine mix_append rfl rfl (.tmp 22) (.tmp 25) 55 rfl (HE.out _) (cls HB1.out) ?_
      repeat (refine mix0 rfl (fun K hK => ?_); go_simp; refine hK _ ?_; clear hK K)
      refine mixEnd ?_
      go_wp2
      all_goals
        go_ret
        refine ⟨.slice (some ⟨g, off, none⟩) (n - j) cap, by first | rfl | (subst_vars; rfl), ⟨fun c hc => H.out.wf c (List.mem_of_mem_drop hc), .inr ⟨g, off, cap, ?_, HP.out⟩⟩, rfl, HMM.out.mono (fun q _ hq => by simp [blk, hq])⟩
        rw [List.length_drop, Hn.out]
end Go.Proofs.Ythpmodohfjjjcaa
