/- ViewReads: any bytes are read as the view that they are, or refused, as the document says: for any text (of which the first 600 bytes are taken). -/
import Derived.Test.YtnbhjehaecifcaaRows
import Derived.Test.YtnbhjehaecifcaaAwake06
import Derived.Test.YtnbhjehaecifcaaSame06
import Derived.Test.YtnbhjehaecifcaaPf06
import Derived.Test.YtnbhjehaecifcaaRw06
namespace Go.Proofs.Ytnbhjehaecifcaa.viewReads
open Go.RowKit Go.ChangeShapes Go.WideShapes Go.ChangeAt
open Go.ChangeMaps (open_string shut_string)

set_option maxRecDepth 100000 in
set_option maxHeartbeats 4000000 in
theorem walk (a0 : List UInt8) (w : World) (_ : a0.length ≤ maxLen) :
    Calls Try.prog 4 #[.string (str a0)] w fun e w' => e = .returned (.bool true) ∧ Below w.heap.size w w' := by
  obtain ⟨s, Hs⟩ : ∃ s, Hid (a0.take 600 = s) := ⟨_, Lib.hid rfl⟩
  have hs : s.length ≤ 600 := by rw [← Hs.out]; simp; omega
  go_enter Try.func4, Try.ntmps4
  go_wp2_with fail
  refine (awake_any _).mono ?_
  rintro e w1 ⟨rfl, hb⟩
  have B1 := Lib.hid hb
  clear hb
  by_cases hgt : 600 < a0.length
  · have hg : (600 : Int) < (a0.length : Int) := by omega
    have hg2 : 600 ≤ a0.length := by omega
    have hts : a0.take 600 = s := Hs.out
    clear hgt
    go_wp2_with fail
    refine (Read_any s (by omega) _).mono ?_
    rintro e w2 ⟨x, E, rfl, hb, hR⟩
    have B2 := Lib.hid (bnext B1.out hb)
    clear hb
    obtain ⟨V, HV⟩ : ∃ V, Hid (rdW s = V) := ⟨_, Lib.hid rfl⟩
    obtain ⟨F, HF⟩ : ∃ F, Hid (rdE s = F) := ⟨_, Lib.hid rfl⟩
    have HX2 : Hid (IsV w2 x V) := Lib.hid (by
      rw [← HV.out]
      cases hr : readB s with
      | true => rw [(rd_yes hr).2]; exact (hR.1 hr).2
      | false => rw [(hR.2 hr).2, (rd_no hr).2]; exact ⟨rfl, rfl, RowM.isL (row_nil _ _), RowM.isL (row_nil _ _), RowI.isI (row_nil _ _)⟩)
    obtain rfl : E = F := by
      rw [← HF.out]
      cases hr : readB s with
      | true => rw [(rd_yes hr).1]; exact (hR.1 hr).1
      | false => rw [(rd_no hr).1]; exact (hR.2 hr).1
    clear hR
    have hFF : (E == E) = true := by simp
    obtain ⟨w3, Hw3⟩ : ∃ u, Hid (w2.alloc (.cells (vC x) 25) = u) := ⟨_, Lib.hid rfl⟩
    obtain ⟨p, Hp⟩ : ∃ p, Hid (w2.heap.size = p) := ⟨_, Lib.hid rfl⟩
    have P3 : Hid (BoxV w3 p x) := Lib.hid (by rw [← Hw3.out, ← Hp.out]; exact BoxV.new w2 x)
    have hb3 : Below w2.heap.size w2 w3 := by rw [← Hw3.out]; exact (Below.refl _ _).alloc (Nat.le_refl _) _
    have B3 := Lib.hid (bnext B2.out hb3)
    have X3 := Lib.hid (HX2.out.below hb3)
    clear hb3
    go_upto_region 5 with (fail)
    rw [show w2.alloc (.cells #[.int .i64 x.nodes, .int .i64 x.epoch, .slice x.mA x.mn x.mc, .slice x.dA x.dn x.dc, .slice x.iA x.ir x.ic] 25) = w3 from Hw3.out, Hp.out]
    go_wp2_with fail
    refine (RRead_any s hs _).mono ?_
    rintro e w4 ⟨y, rfl, hY, hb⟩
    rw [HF.out]
    rw [HV.out] at hY
    have B4 := Lib.hid (bnext B3.out hb)
    have X4 := Lib.hid (X3.out.below hb)
    have Y4 := Lib.hid hY
    have P4 := Lib.hid (P3.out.below hb)
    clear hY hb
    obtain ⟨w5, Hw5⟩ : ∃ u, Hid (w4.alloc (.cells (vC y) 25) = u) := ⟨_, Lib.hid rfl⟩
    obtain ⟨q, Hq⟩ : ∃ p, Hid (w4.heap.size = p) := ⟨_, Lib.hid rfl⟩
    have Q5 : Hid (BoxV w5 q y) := Lib.hid (by rw [← Hw5.out, ← Hq.out]; exact BoxV.new w4 y)
    have hb5 : Below w4.heap.size w4 w5 := by rw [← Hw5.out]; exact (Below.refl _ _).alloc (Nat.le_refl _) _
    have B5 := Lib.hid (bnext B4.out hb5)
    have X5 := Lib.hid (X4.out.below hb5)
    have Y5 := Lib.hid (Y4.out.below hb5)
    have P5 := Lib.hid (P4.out.below hb5)
    clear hb5
    go_upto_region 6 with (fail)
    rw [show w4.alloc (.cells #[.int .i64 y.nodes, .int .i64 y.epoch, .slice y.mA y.mn y.mc, .slice y.dA y.dn y.dc, .slice y.iA y.ir y.ic] 25) = w5 from Hw5.out, Hq.out]
    obtain ⟨v0, v1, v2, v3, v4⟩ := P5.out.cells
    obtain ⟨u0, u1, u2, u3, u4⟩ := Q5.out.cells
    go_wp2_with fail
    clear v0 v1 v2 v3 v4 u0 u1 u2 u3 u4
    refine (Same_any w5 x y V V X5.out Y5.out).mono ?_
    rw [same_self]
    rintro e w6 ⟨rfl, hb⟩
    have B6 := Lib.hid (bnext B5.out hb)
    clear hb
    go_wp2
    go_ret
    exact ⟨rfl, B6.out⟩
  · have hg : ¬ (600 : Int) < (s.length : Int) := by omega
    have e0 : a0 = s := by rw [← Hs.out, List.take_of_length_le (by omega)]
    rw [e0]
    clear Hs e0 hgt
    go_wp2_with fail
    refine (Read_any s (by omega) _).mono ?_
    rintro e w2 ⟨x, E, rfl, hb, hR⟩
    have B2 := Lib.hid (bnext B1.out hb)
    clear hb
    obtain ⟨V, HV⟩ : ∃ V, Hid (rdW s = V) := ⟨_, Lib.hid rfl⟩
    obtain ⟨F, HF⟩ : ∃ F, Hid (rdE s = F) := ⟨_, Lib.hid rfl⟩
    have HX2 : Hid (IsV w2 x V) := Lib.hid (by
      rw [← HV.out]
      cases hr : readB s with
      | true => rw [(rd_yes hr).2]; exact (hR.1 hr).2
      | false => rw [(hR.2 hr).2, (rd_no hr).2]; exact ⟨rfl, rfl, RowM.isL (row_nil _ _), RowM.isL (row_nil _ _), RowI.isI (row_nil _ _)⟩)
    obtain rfl : E = F := by
      rw [← HF.out]
      cases hr : readB s with
      | true => rw [(rd_yes hr).1]; exact (hR.1 hr).1
      | false => rw [(rd_no hr).1]; exact (hR.2 hr).1
    clear hR
    have hFF : (E == E) = true := by simp
    obtain ⟨w3, Hw3⟩ : ∃ u, Hid (w2.alloc (.cells (vC x) 25) = u) := ⟨_, Lib.hid rfl⟩
    obtain ⟨p, Hp⟩ : ∃ p, Hid (w2.heap.size = p) := ⟨_, Lib.hid rfl⟩
    have P3 : Hid (BoxV w3 p x) := Lib.hid (by rw [← Hw3.out, ← Hp.out]; exact BoxV.new w2 x)
    have hb3 : Below w2.heap.size w2 w3 := by rw [← Hw3.out]; exact (Below.refl _ _).alloc (Nat.le_refl _) _
    have B3 := Lib.hid (bnext B2.out hb3)
    have X3 := Lib.hid (HX2.out.below hb3)
    clear hb3
    go_upto_region 5 with (fail)
    rw [show w2.alloc (.cells #[.int .i64 x.nodes, .int .i64 x.epoch, .slice x.mA x.mn x.mc, .slice x.dA x.dn x.dc, .slice x.iA x.ir x.ic] 25) = w3 from Hw3.out, Hp.out]
    go_wp2_with fail
    refine (RRead_any s hs _).mono ?_
    rintro e w4 ⟨y, rfl, hY, hb⟩
    rw [HF.out]
    rw [HV.out] at hY
    have B4 := Lib.hid (bnext B3.out hb)
    have X4 := Lib.hid (X3.out.below hb)
    have Y4 := Lib.hid hY
    have P4 := Lib.hid (P3.out.below hb)
    clear hY hb
    obtain ⟨w5, Hw5⟩ : ∃ u, Hid (w4.alloc (.cells (vC y) 25) = u) := ⟨_, Lib.hid rfl⟩
    obtain ⟨q, Hq⟩ : ∃ p, Hid (w4.heap.size = p) := ⟨_, Lib.hid rfl⟩
    have Q5 : Hid (BoxV w5 q y) := Lib.hid (by rw [← Hw5.out, ← Hq.out]; exact BoxV.new w4 y)
    have hb5 : Below w4.heap.size w4 w5 := by rw [← Hw5.out]; exact (Below.refl _ _).alloc (Nat.le_refl _) _
    have B5 := Lib.hid (bnext B4.out hb5)
    have X5 := Lib.hid (X4.out.below hb5)
    have Y5 := Lib.hid (Y4.out.below hb5)
    have P5 := Lib.hid (P4.out.below hb5)
    clear hb5
    go_upto_region 6 with (fail)
    rw [show w4.alloc (.cells #[.int .i64 y.nodes, .int .i64 y.epoch, .slice y.mA y.mn y.mc, .slice y.dA y.dn y.dc, .slice y.iA y.ir y.ic] 25) = w5 from Hw5.out, Hq.out]
    obtain ⟨v0, v1, v2, v3, v4⟩ := P5.out.cells
    obtain ⟨u0, u1, u2, u3, u4⟩ := Q5.out.cells
    go_wp2_with fail
    clear v0 v1 v2 v3 v4 u0 u1 u2 u3 u4
    refine (Same_any w5 x y V V X5.out Y5.out).mono ?_
    rw [same_self]
    rintro e w6 ⟨rfl, hb⟩
    have B6 := Lib.hid (bnext B5.out hb)
    clear hb
    go_wp2
    go_ret
    exact ⟨rfl, B6.out⟩
theorem own : ownKnob Try.prog.godebug = none := by kernel_rfl
theorem laidOut : laidOutB Try.prog = true := by kernel_rfl
set_option maxRecDepth 100000 in
theorem lifted (os : Os) (started : os.Started) (H : Type) (enc : TypeId × Value → H) :
    ReturnsInHanded {} Try.checked os 4 .any (Rows.viewReadsSpec.pre6 enc Try.prog Try.f4 Rows.viewReadsRow.domain false) (Rows.viewReadsSpec.post enc Try.prog Try.f4 false true false false) := by
  refine returnsInHanded_of_change (C := Try.checked) own started (by kernel_rfl) Try.func4
    (ChangeSpec.witness6 (enc := enc) (C := Try.checked) false ⟨#[], #[.string ByteArray.empty], []⟩ 8 (by kernel_rfl) (by kernel_rfl) (by kernel_rfl) (by kernel_rfl)) ?_
  intro W base args ds gs before hval0 hW hcnd _
  have hval : ∀ (j : Nat) t v, Try.f4.params[j]? = some t → args[j]? = some v → Value.okWide Try.prog W .any base t v := hval0
  have hW' := hW
  obtain ⟨p, q, hA0, hV, rfl, hfz, hnd⟩ := hW
  have hA : DataW.TrodAll enc Try.prog W 0 (fun _ => true) true Try.f4.params.toList args.toList ds p := hA0
  rw [Try.params4] at hA hval
  obtain ⟨v0, vs0, d0, ds0, p0, q0, hargs, rfl, rfl, h0, r0⟩ := trodAll_cons hA
  obtain ⟨rfl, rfl, rfl⟩ := trodAll_nil r0
  obtain rfl : args = #[v0] := by cases args; simp_all
  obtain ⟨s0, rfl, rfl, rfl, w0⟩ := open_string Try.underlying9 (hval 0 9 v0 rfl rfl) h0
  obtain ⟨a0, rfl⟩ := str_of s0
  rw [str_size] at w0
  clear hA0 hval0
  refine (walk a0 W w0).mono fun e W' ⟨he, bel⟩ => ?_
  subst he
  exact ⟨_, rfl, law_post laidOut (by rw [Try.params4]; decide +kernel) rfl Try.underlying4 rfl hW' (fun _ => rfl) bel⟩
theorem over : Rows.viewReadsRow.holds Try.pinned (OpenSpec.ofChange Rows.viewReadsSpec) :=
  OpenClaim.holds_of_wide 4 Try.f4 rfl rfl rfl rfl rfl rfl rfl ⟨rfl, rfl, rfl, rfl, rfl⟩ rfl rfl rfl rfl rfl (by kernel_rfl) Try.func4 (by kernel_rfl)
    (of_decide_eq_true (by kernel_rfl)) (by unfold Func.isWrapper; first | (rw [if_pos (by decide +kernel)]; kernel_rfl) | (rw [if_neg (by decide +kernel)]; exact ⟨rfl, rfl⟩))
    (fun os started H enc _ => lifted os started H enc)
theorem proved : Rows.ViewReadsSaid := over
end Go.Proofs.Ytnbhjehaecifcaa.viewReads
