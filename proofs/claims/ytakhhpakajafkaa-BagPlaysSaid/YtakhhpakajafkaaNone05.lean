/- What the calls give of no network that go over all links. -/
import Derived.Test.YtakhhpakajafkaaVoid
namespace Go.Proofs.Ytakhhpakajafkaa
open Go.RowKit Go.Shelf

attribute [local go_sem] Oper.semAt_some

set_option maxRecDepth 100000 in
set_option maxHeartbeats 1000000 in
theorem many_none (w : World) :
    Calls Try.prog 36 #[.pointer none] w fun e w' => e = .returned (.int .i64 0) ∧ Below w.heap.size w w' := by
  obtain ⟨K, HK⟩ : ∃ K, Hid (w.heap.size = K) := ⟨_, Lib.hid rfl⟩
  obtain ⟨W1, HW1⟩ : ∃ W1, Hid (w.alloc (.cells #[.int .i64 0] 3) = W1) := ⟨_, Lib.hid rfl⟩
  have Hb1 : Hid (Below w.heap.size w W1) := Lib.hid (by rw [← HW1.out]; exact (Below.refl _ _).alloc (Nat.le_refl _) _)
  have Hs1 : Hid (W1.heap.size = K + 1) := Lib.hid (by rw [← HW1.out, ← HK.out]; simp)
  have HbS : Hid (Boxed W1 K 3 (.int .i64 0)) := Lib.hid (by rw [← HW1.out, ← HK.out]; exact Boxed.new w _ _)
  refine (callsIn_wide (n := 8)).1 ?_
  refine callsIn_of_wp_marks Try.func36 rfl trivial ?_ rfl
  simp only [Try.ntmps36, List.size_toArray, List.length_cons, List.length_nil, Nat.reduceAdd, Nat.reduceSub, Array.replicate_succ, Array.replicate_zero, List.push_toArray, List.append_toArray, List.nil_append, List.cons_append]
  gi_wp2
  rw [HW1.out, HK.out]
  refine over_nil rfl (by omega) rfl trivial rfl (fun W => Boxed W K 3 (.int .i64 0) ∧ Below w.heap.size w W)
    (fun W W' h m => ⟨boxed_aside m h.1, below_aside h.2 m (by have := Hs1.out; have := HK.out; omega) h.2.size⟩) ⟨HbS.out, Hb1.out⟩ ?_
  rintro D W hD ⟨hB, hb⟩ hK
  have cS := hB.cell
  gi_wp2
  refine ⟨by simp, .inl ⟨_, _, rfl, run_takeDeferred hK, ?_⟩⟩
  refine ⟨.int .i64 0, ?_, rfl, hb.trans (belowK_b (w := w) (Nat.le_refl _) _ D _ _ (by have := Hs1.out; have := HK.out; omega) hK rfl rfl)⟩
  simp [results, Try.f36, go_sem]
set_option maxRecDepth 100000 in
set_option maxHeartbeats 1000000 in
theorem All_none (w : World) :
    Calls Try.prog 25 #[.pointer none] w fun e w' => e = .returned (.slice none 0 0) ∧ Below w.heap.size w w' := by
  obtain ⟨K, HK⟩ : ∃ K, Hid (w.heap.size = K) := ⟨_, Lib.hid rfl⟩
  obtain ⟨W1, HW1⟩ : ∃ W1, Hid (w.alloc (.cells #[.slice none 0 0] 27) = W1) := ⟨_, Lib.hid rfl⟩
  have Hb1 : Hid (Below w.heap.size w W1) := Lib.hid (by rw [← HW1.out]; exact (Below.refl _ _).alloc (Nat.le_refl _) _)
  have Hs1 : Hid (W1.heap.size = K + 1) := Lib.hid (by rw [← HW1.out, ← HK.out]; simp)
  have HbS : Hid (Boxed W1 K 27 (.slice none 0 0)) := Lib.hid (by rw [← HW1.out, ← HK.out]; exact Boxed.new w _ _)
  refine (callsIn_wide (n := 8)).1 ?_
  refine callsIn_of_wp_marks Try.func25 rfl trivial ?_ rfl
  simp only [Try.ntmps25, List.size_toArray, List.length_cons, List.length_nil, Nat.reduceAdd, Nat.reduceSub, Array.replicate_succ, Array.replicate_zero, List.push_toArray, List.append_toArray, List.nil_append, List.cons_append]
  gi_wp2
  rw [HW1.out, HK.out]
  refine over_nil rfl (by omega) rfl trivial rfl (fun W => Boxed W K 27 (.slice none 0 0) ∧ Below w.heap.size w W)
    (fun W W' h m => ⟨boxed_aside m h.1, below_aside h.2 m (by have := Hs1.out; have := HK.out; omega) h.2.size⟩) ⟨HbS.out, Hb1.out⟩ ?_
  rintro D W hD ⟨hB, hb⟩ hK
  have cS := hB.cell
  gi_wp2
  refine ⟨by simp, .inl ⟨_, _, rfl, run_takeDeferred hK, ?_⟩⟩
  refine ⟨.slice none 0 0, ?_, rfl, hb.trans (belowK_b (w := w) (Nat.le_refl _) _ D _ _ (by have := Hs1.out; have := HK.out; omega) hK rfl rfl)⟩
  simp [results, Try.f25, go_sem]
set_option maxRecDepth 100000 in
set_option maxHeartbeats 1000000 in
theorem Void_none (d : Int) (w : World) :
    Calls Try.prog 19 #[.pointer none, .int .i64 d] w fun e w' => e = .returned (.int .i64 0) ∧ Below w.heap.size w w' := by
  obtain ⟨K, HK⟩ : ∃ K, Hid (w.heap.size = K) := ⟨_, Lib.hid rfl⟩
  obtain ⟨W1, HW1⟩ : ∃ W1, Hid ((w.alloc (.cells #[.int .i64 d] 3)).alloc (.cells #[.int .i64 0] 3) = W1) := ⟨_, Lib.hid rfl⟩
  have Hb1 : Hid (Below w.heap.size w W1) := Lib.hid (by rw [← HW1.out]; exact balloc ((Below.refl _ _).alloc (Nat.le_refl _) _) _)
  have Hs1 : Hid (W1.heap.size = K + 2) := Lib.hid (by rw [← HW1.out, ← HK.out]; simp)
  have HbR : Hid (Boxed W1 (K + 1) 3 (.int .i64 0)) := Lib.hid (by
    have := Boxed.new (w.alloc (.cells #[.int .i64 d] 3)) 3 (.int .i64 0)
    rw [World.size_alloc, HK.out, HW1.out] at this; exact this)
  refine (callsIn_wide (n := 8)).1 ?_
  refine callsIn_of_wp_marks Try.func19 rfl trivial ?_ rfl
  simp only [Try.ntmps19, List.size_toArray, List.length_cons, List.length_nil, Nat.reduceAdd, Nat.reduceSub, Array.replicate_succ, Array.replicate_zero, List.push_toArray, List.append_toArray, List.nil_append, List.cons_append]
  gi_wp2
  refine (wpIn_wide (n := 8)).2 (wp_scope_straight ((wpIn_wide (n := 8)).1 ?_))
  gi_wp2
  refine wpIn_label ?_
  gi_wp2
  rw [HW1.out, HK.out]
  refine over_nil rfl (by omega) rfl trivial rfl (fun W => Boxed W (K + 1) 3 (.int .i64 0) ∧ Below w.heap.size w W)
    (fun W W' h m => ⟨boxed_aside m h.1, below_aside h.2 m (by have := Hs1.out; have := HK.out; omega) h.2.size⟩) ⟨HbR.out, Hb1.out⟩ ?_
  rintro D W hD ⟨hB, hb⟩ hK
  have cS := hB.cell
  gi_wp2
  refine ⟨by simp, .inl ⟨_, _, rfl, run_takeDeferred hK, ?_⟩⟩
  refine ⟨.int .i64 0, ?_, rfl, hb.trans (belowK_b (w := w) (Nat.le_refl _) _ D _ _ (by have := Hs1.out; have := HK.out; omega) hK rfl rfl)⟩
  simp [results, Try.f19, go_sem]
theorem Any_nonet (x : Int) (w : World) :
    Calls Try.prog 14 #[.pointer none, .int .i64 x] w fun e w' => e = .returned (.tuple #[zeroP, .bool false]) ∧ Below w.heap.size w w' := by
  obtain ⟨W1, HW1⟩ : ∃ W1, Hid (w.alloc (.cells #[.int .i64 0, .int .i64 0, .string ⟨#[]⟩] 35) = W1) := ⟨_, Lib.hid rfl⟩
  have Hb1 : Hid (Below w.heap.size w W1) := Lib.hid (by rw [← HW1.out]; exact (Below.refl _ _).alloc (Nat.le_refl _) _)
  have HR : Hid (Boxed3 W1 w.heap.size 35 (.int .i64 0) (.int .i64 0) (.string ⟨#[]⟩)) := Lib.hid (by rw [← HW1.out]; exact Boxed3.new w _ _ _ _)
  go_enter Try.func14, Try.ntmps14
  go_wp2_with fail
  rw [HW1.out]
  refine (many_none _).mono ?_
  rintro e w2 ⟨rfl, hb2⟩
  have HR2 := Lib.hid (HR.out.kept (Mod.of_below (S := fun _ => False) hb2) id)
  have Hb2 := Lib.hid hb2
  clear hb2
  go_wp2_with fail
  refine (pickP_none _ _ _).mono ?_
  rintro e w3 ⟨rfl, hb3⟩
  have hR3 := HR2.out.kept (Mod.of_below (S := fun _ => False) hb3) id
  have c0 := hR3.cell0
  have c1 := hR3.cell1
  have c2 := hR3.cell2
  have f0 := hR3.frozen 0
  have f1 := hR3.frozen 1
  have f2 := hR3.frozen 2
  have HR3 := Lib.hid hR3
  have Hb3 := Lib.hid hb3
  clear hR3 hb3
  unfold zeroP
  go_wp2
  have hR4 := HR3.out.set (.int .i64 0) (.int .i64 0) (.string ⟨#[]⟩)
  have d0 := hR4.cell0
  have d1 := hR4.cell1
  have d2 := hR4.cell2
  have hbel : Below w.heap.size w w3 := bnext (bnext Hb1.out Hb2.out) Hb3.out
  refine bodyPost_ret (v := .tuple #[zeroP, .bool false]) ?_ rfl ⟨rfl, (((hbel.setCell (p := ⟨w.heap.size, 0, none⟩) (Nat.le_refl _) _).setCell (p := ⟨w.heap.size, 1, none⟩) (Nat.le_refl _) _).setCell (p := ⟨w.heap.size, 2, none⟩) (Nat.le_refl _) _)⟩
  simp [results, zeroP, Try.f14, go_sem, d0, d1, d2]
end Go.Proofs.Ytakhhpakajafkaa
