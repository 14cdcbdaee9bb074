/- Of no tree nothing comes; a zero one has no sectors: TreeNil. -/
import Derived.Test.YtiomhdanmcnaeaaGreatDoorTied16
import Derived.Test.YtiomhdanmcnaeaaGreatDoorUp16

namespace Go.Proofs.YtiomhdanmcnaeaaGreatDoor.treeNil
open Go.RowKit Go.ChangeShapes Go.WideShapes Go.ChangeAt
open Go.ChangeMaps (open_string shut_string)

theorem z16 : (newTr 0).newE [] [97] 1 = 15 := by decide +kernel
theorem pz16 : pathOf ([] ++ [[97]]) = [47, 97] := by decide
set_option maxRecDepth 100000 in
set_option maxHeartbeats 8000000 in
theorem walk (op : Int) (w : World) (_ : (Lit.int .i64 op).wf = true) (hm : Mx w) :
    Calls Tryz.prog 4 #[.int .i64 op] w fun e w' => e = .returned (.bool true) ∧ Below w.heap.size w w' := by
  have HM := Lib.hid hm
  have hpos := mx_pos hm
  clear hm
  go_enter Tryz.func4, Tryz.ntmps4
  go_upto_region 3 with (fail)
  obtain ⟨u0, Hu0⟩ : ∃ u, Hid (w.alloc (.cells #[.int .i64 0, .int .i64 0, .map none, .map none] 41) = u) := ⟨_, Lib.hid rfl⟩
  obtain ⟨b, Hb⟩ : ∃ u, Hid (w.heap.size = u) := ⟨_, Lib.hid rfl⟩
  have H0 : Hid (IsT u0 b none none 0 (newTr 0)) := Lib.hid (by rw [← Hu0.out, ← Hb.out]; exact box_tree (BoxC.new w _ _) hpos)
  have F0 : Hid (Fresh w u0 b none none) := Lib.hid ⟨by rw [← Hu0.out]; exact balloc (Below.refl _ _) _, fun g hg => by
    rcases hg with e | e | e
    · have := Hb.out; omega
    · cases e
    · cases e⟩
  rw [Hu0.out, Hb.out]
  go_wp2_with fail
  refine (Do_nil ⟨op, [], [], 0, 0, []⟩ u0).mono ?_
  rintro e u1 ⟨rfl, hb⟩
  have H1 := Lib.hid (H0.out.below hb)
  have F1 := Lib.hid (F0.out.more hb)
  clear hb
  go_upto_region 4 with (fail)
  obtain ⟨v1, Hv1⟩ : ∃ u, Hid (u1.alloc (.cells #[.int .i64 1, .string (str []), .slice none 0 0, .int .i64 0, .int .i64 0, .int .i64 0, .int .i64 0] 29) = u) := ⟨_, Lib.hid rfl⟩
  obtain ⟨r1, Hr1⟩ : ∃ u, Hid (u1.heap.size = u) := ⟨_, Lib.hid rfl⟩
  have X1 : Hid (BoxC v1 r1 #[.int .i64 1, .string (str []), .slice none 0 0, .int .i64 0, .int .i64 0, .int .i64 0, .int .i64 0] 29) := Lib.hid (by rw [← Hv1.out, ← Hr1.out]; exact BoxC.new u1 _ _)
  have hbv : Below u1.heap.size u1 v1 := by rw [← Hv1.out]; exact balloc (Below.refl _ _) _
  have H1b := Lib.hid (H1.out.below hbv)
  have F1b := Lib.hid (F1.out.more hbv)
  clear hbv
  rw [Hv1.out, Hr1.out]
  have hd := do_2 H1b.out (newTr_ok 0 (by omega)) (by omega) (by omega) (HM.out.below F1b.out.below) 0 0 [] [] [] [97] ⟨by decide, by decide⟩ (by decide)
  rw [pz16, z16, if_neg (by decide)] at hd
  have HD := Lib.hid hd
  clear hd
  go_wp2_with fail
  rw [show (⟨#[47, 97]⟩ : ByteArray) = str [47, 97] from rfl]
  refine HD.out.mono ?_
  rintro e u2 ⟨rfl, mt2, ml2, h, t⟩
  have H2 := Lib.hid h
  have F2 := Lib.hid (F1b.out.next t)
  have X1_2 := Lib.hid (X1.out.kept t.mod (H1b.out.notOwn X1.out (fun x h => by cases h)))
  clear h t HD
  go_upto_region 5 with (fail)
  obtain ⟨v2, Hv2⟩ : ∃ u, Hid (u2.alloc (.cells #[.int .i64 15, .string (str []), .slice none 0 0, .int .i64 0, .int .i64 0, .int .i64 0, .int .i64 0] 29) = u) := ⟨_, Lib.hid rfl⟩
  obtain ⟨r2, Hr2⟩ : ∃ u, Hid (u2.heap.size = u) := ⟨_, Lib.hid rfl⟩
  have X2 : Hid (BoxC v2 r2 #[.int .i64 15, .string (str []), .slice none 0 0, .int .i64 0, .int .i64 0, .int .i64 0, .int .i64 0] 29) := Lib.hid (by rw [← Hv2.out, ← Hr2.out]; exact BoxC.new u2 _ _)
  have hbv : Below u2.heap.size u2 v2 := by rw [← Hv2.out]; exact balloc (Below.refl _ _) _
  have H2b := Lib.hid (H2.out.below hbv)
  have F2b := Lib.hid (F2.out.more hbv)
  have X1b := Lib.hid (X1_2.out.below hbv)
  clear hbv
  rw [Hv2.out, Hr2.out]
  go_wp2_with fail
  refine (awk16_any v2 (HM.out.below F2b.out.below)).mono ?_
  rintro e u3 ⟨rfl, hb⟩
  have H3 := Lib.hid (H2b.out.below hb)
  have F3 := Lib.hid (F2b.out.more hb)
  have X1c := Lib.hid (X1b.out.below hb)
  have X2c := Lib.hid (X2.out.below hb)
  clear hb
  have y1 := X1c.out.cell 0 rfl
  have y2 := X2c.out.cell 0 rfl
  go_wp2_with fail
  refine (All_nil u3).mono ?_
  rintro e u4 ⟨rfl, rfl⟩
  go_wp2_with fail
  refine (Free_nil u3).mono ?_
  rintro e u4 ⟨rfl, rfl⟩
  go_wp2_with fail
  refine (Copy_nil u3).mono ?_
  rintro e u4 ⟨rfl, rfl⟩
  go_wp2_with fail
  refine (Free_any H3.out).mono ?_
  rw [show (newTr 0).free = 0 from rfl]
  rintro e u4 ⟨rfl, rfl⟩
  go_wp2
  go_ret
  exact ⟨rfl, F3.out.below⟩
set_option maxRecDepth 100000 in
theorem lifted (os : Os) (started : os.Started) (H : Type) (enc : TypeId × Value → H) :
    ReturnsInHanded {} Tryz.checked os 4 .any (fun w args => (Rows.treeNilSpec.pre enc Tryz.prog Tryz.f4 [] false w args ∧ laidMetH Tryz.prog laidT w) ∧ sizedMet enc Tryz.prog Tryz.f4 (OpenSpec.ofChange Rows.treeNilSpec) false w args)
      (Rows.treeNilSpec.post enc Tryz.prog Tryz.f4 false true false false) := by
  refine lift15 (C := Tryz.checked) (X := fun w _ => laidMetH Tryz.prog laidT w) (fun _ _ _ hh h => h.of_heap hh) own started (by kernel_rfl) Tryz.func4
    (ChangeSpec.witness_shaped (enc := enc) (C := Tryz.checked) (os := os) (X := fun w _ => laidMetH Tryz.prog laidT w) false (World.laidAll Tryz.prog os laidT) #[.int .i64 0] 8 (World.laidAll_os _ _ _) (World.shaped_of_ZipB (by kernel_rfl) (by kernel_rfl)) (by kernel_rfl) (by kernel_rfl) (by kernel_rfl) (door_met os _)) ?_
  intro W base args ds gs before hval0 hW _ _ _ hsh _
  have hval : ∀ (j : Nat) t v, Tryz.f4.params[j]? = some t → args[j]? = some v → Value.okWide Tryz.prog W .any base t v := hval0
  have hW' := hW
  obtain ⟨p, q, hA0, hV, rfl, hfz, hnd⟩ := hW
  have hA : DataW.TrodAll enc Tryz.prog W 0 (fun _ => true) true Tryz.f4.params.toList args.toList ds p := hA0
  rw [Tryz.params4] at hA hval
  obtain ⟨v0, vs0, d0, ds0, p0, q0, hargs, rfl, rfl, h0, r0⟩ := trodAll_cons hA
  obtain ⟨rfl, rfl, rfl⟩ := trodAll_nil r0
  obtain rfl : args = #[v0] := by cases args; simp_all
  obtain ⟨a0, rfl, rfl, rfl, w0⟩ := open_int Tryz.underlying3 (hval 0 3 v0 rfl rfl) h0
  clear hA0 hval0
  refine (walk a0 W w0 (mx_of_shape hsh)).mono fun e W' ⟨he, bel⟩ => ?_
  subst he
  exact ⟨_, rfl, law_post laidOut (by rw [Tryz.params4]; decide +kernel) rfl Tryz.underlying4 rfl hW' (fun _ => rfl) bel⟩
theorem over : Rows.treeNilRow.holds Tryz.pinned (OpenSpec.ofChange Rows.treeNilSpec) :=
  OpenClaim.holds_of_wide 4 Tryz.f4 rfl rfl rfl rfl rfl rfl rfl ⟨rfl, rfl, rfl, rfl, rfl⟩ rfl rfl rfl rfl rfl (by kernel_rfl) Tryz.func4 (by kernel_rfl)
    (of_decide_eq_true (by kernel_rfl)) (by unfold Func.isWrapper; first | (rw [if_pos (by decide +kernel)]; kernel_rfl) | (rw [if_neg (by decide +kernel)]; exact ⟨rfl, rfl⟩))
    (fun os started H enc _ => lifted os started H enc)
theorem proved : Rows.TreeNilCardSaid :=
  Claim7.holds_tied_plain_at .later [] [.data, .pinned] true Rows.treeNilCard.stood.harness true over (fun _ h => by cases h) (by kernel_rfl) (fun _ h => by cases h) treeNil_row_tie rfl ⟨rfl, rfl⟩ (by kernel_rfl) rfl
    (fun f fn hf hfn => by
      obtain rfl : f = 4 := Option.some.inj ((show Tryz.prog.funcNamed "lockgate/lockgatelaw16.TreeNil" = some 4 by kernel_rfl).symm.trans hf) |>.symm
      obtain rfl : fn = Tryz.f4 := (Option.some.inj (Tryz.func4.symm.trans hfn)).symm
      exact ⟨by kernel_rfl, fun j t ht => by
        rw [Tryz.params4] at ht
        have hm : t ∈ [3] := by simpa using Array.mem_of_getElem? ht
        have hall : ([3].all fun u => !Tryz.prog.wantsStandIn u) = true := by kernel_rfl
        exact (show Tryz.prog.wantsStandIn t = false by simpa using List.all_eq_true.1 hall t hm)⟩)
    (by kernel_rfl)
end Go.Proofs.YtiomhdanmcnaeaaGreatDoor.treeNil
