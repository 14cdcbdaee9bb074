/- ViewBytes: which views may be, and their bytes, are as the document says; what was written is read again, and fits into a sector; a new view is the document's: for any view (its lists cut to 30) and any number of nodes. -/
import Derived.Test.YtnbhjehaecifcaaRows
import Derived.Test.YtnbhjehaecifcaaAwake06
import Derived.Test.YtnbhjehaecifcaaSame06
import Derived.Test.YtnbhjehaecifcaaLi06
import Derived.Test.YtnbhjehaecifcaaPf06
import Derived.Test.YtnbhjehaecifcaaRBy06
namespace Go.Proofs.Ytnbhjehaecifcaa.viewBytes
open Go.RowKit Go.ChangeShapes Go.WideShapes Go.ChangeAt
open Go.ChangeMaps (open_string shut_string)

theorem blk_same (A : Option Addr) (n c n' c' : Nat) : blk (.slice A n c) = blk (.slice A n' c') := by cases A <;> rfl
set_option maxRecDepth 100000 in
set_option maxHeartbeats 8000000 in
theorem walk (x : Vx) (V : Vw) (nn : Int) (w : World) (hx : IsV w x V) (_ : (Lit.int .i64 nn).wf = true) :
    Calls Try.prog 3 #[vV x, .int .i64 nn] w fun e w' => e = .returned (.bool true) ∧ Below w.heap.size w w' := by
  have Hx := Lib.hid hx
  clear hx
  go_enter Try.func3, Try.ntmps3
  go_upto_region 1 with (fail)
  obtain ⟨w1, Hw1⟩ : ∃ w1, Hid (w.alloc (.cells (vC x) 25) = w1) := ⟨_, Lib.hid rfl⟩
  obtain ⟨b, Hb⟩ : ∃ b, Hid (w.heap.size = b) := ⟨_, Lib.hid rfl⟩
  have HA1 : Hid (BoxV w1 b x) := Lib.hid (by rw [← Hw1.out, ← Hb.out]; exact BoxV.new w x)
  have HB1 : Hid (Below w.heap.size w w1) := Lib.hid (by rw [← Hw1.out]; exact (Below.refl _ _).alloc (Nat.le_refl _) _)
  rw [show w.alloc (.cells #[.int .i64 x.nodes, .int .i64 x.epoch, .slice x.mA x.mn x.mc, .slice x.dA x.dn x.dc, .slice x.iA x.ir x.ic] 25) = w1 from Hw1.out, Hb.out]
  go_wp2_with fail
  refine (awake_any _).mono ?_
  rintro e w2 ⟨rfl, hb2⟩
  have HB2 : Hid (Below w.heap.size w w2) := Lib.hid (bnext HB1.out hb2)
  have HA2 := Lib.hid (HA1.out.below hb2)
  clear hb2
  obtain ⟨v0, v1, v2, v3, v4⟩ := HA2.out.cells
  go_wp2_with fail
  refine (small_any w2 x V (Hx.out.below HB2.out)).mono ?_
  rintro e w3 ⟨x0, rfl, V0, h3, m3, d3, i3, hb3, c3⟩
  have HB3 : Hid (Below w.heap.size w w3) := Lib.hid (bnext HB2.out hb3)
  have HA3 := Lib.hid (HA2.out.below hb3)
  have HV3 := Lib.hid h3
  have HL3 : Hid (V0.mem.length ≤ 30 ∧ V0.dead.length ≤ 30 ∧ V0.incs.length ≤ 30) := Lib.hid ⟨m3, d3, i3⟩
  clear hb3 h3 m3 d3 i3 v0 v1 v2 v3 v4
  obtain ⟨r0, r1, r2, r3, r4⟩ := HA3.out.cells
  have f0 := HA3.out.free 0
  have f1 := HA3.out.free 1
  have f2 := HA3.out.free 2
  have f3 := HA3.out.free 3
  have f4 := HA3.out.free 4
  go_upto_region 3 with (fail)
  obtain ⟨w4, Hw4⟩ : ∃ u, Hid (setV w3 b x0 = u) := ⟨_, Lib.hid rfl⟩
  have m4 : Mod (· = b) w3 w4 := by rw [← Hw4.out]; exact setV_mod w3 b x0
  have HB4 : Hid (Below w.heap.size w w4) := Lib.hid (bmod HB3.out m4 (Nat.le_of_eq Hb.out))
  have HA4 : Hid (BoxV w4 b x0) := Lib.hid (by rw [← Hw4.out]; exact setV_box HA3.out x0)
  have HI3 : Hid (Li w3 (· = b) x0 V0) := Lib.hid ⟨HV3.out, fun hn i hi e => by
      have := Hx.out.mem.lowB (Nat.lt_of_lt_of_le hn c3.mem.2) i (by rw [← hi, mS, c3.mem.1]; exact blk_same _ _ _ _ _)
      have := Hb.out; omega, fun hn i hi e => by
      have := Hx.out.dead.lowB (Nat.lt_of_lt_of_le hn c3.dead.2) i (by rw [← hi, dS, c3.dead.1]; exact blk_same _ _ _ _ _)
      have := Hb.out; omega, fun hn i hi e => by
      have := Hx.out.incs.lowB (Nat.lt_of_lt_of_le hn c3.incs.2) i (by rw [← hi, iS, c3.incs.1]; exact blk_same _ _ _ _ _)
      have := Hb.out; omega⟩
  have HV4 : Hid (IsV w4 x0 V0) := Lib.hid (HI3.out.mod m4 (fun i e => e)).isV
  rw [show ((((w3.setCell ⟨b, 0, none⟩ (.int .i64 x0.nodes)).setCell ⟨b, 1, none⟩ (.int .i64 x0.epoch)).setCell ⟨b, 2, none⟩ (.slice x0.mA x0.mn x0.mc)).setCell ⟨b, 3, none⟩ (.slice x0.dA x0.dn x0.dc)).setCell ⟨b, 4, none⟩ (.slice x0.iA x0.ir x0.ic) = w4 from Hw4.out]
  clear r0 r1 r2 r3 r4 f0 f1 f2 f3 f4 m4 c3 HI3
  obtain ⟨S, HS⟩ : ∃ S, Hid (bytesV V0 = S) := ⟨_, Lib.hid rfl⟩
  obtain ⟨E, HE⟩ : ∃ E, Hid (chkE V0 = E) := ⟨_, Lib.hid rfl⟩
  have hSS : (S == S) = true := by simp
  have hEE : (E == E) = true := by simp
  obtain ⟨v0, v1, v2, v3, v4⟩ := HA4.out.cells
  go_wp2_with fail
  clear v0 v1 v2 v3 v4
  refine (Bytes_any w4 x0 V0 HV4.out).mono ?_
  rw [HS.out, HE.out]
  rintro e w5 ⟨rfl, hb⟩
  have HB5 := Lib.hid (bnext HB4.out hb)
  have HA5 := Lib.hid (HA4.out.below hb)
  have HV5 := Lib.hid (HV4.out.below hb)
  clear hb
  obtain ⟨v0, v1, v2, v3, v4⟩ := HA5.out.cells
  go_wp2_with fail
  clear v0 v1 v2 v3 v4
  refine (RBytes_any w5 x0 V0 HV5.out (by have := HL3.out; omega)).mono ?_
  rw [HS.out, HE.out]
  rintro e w6 ⟨rfl, hb⟩
  have HB6 := Lib.hid (bnext HB5.out hb)
  have HA6 := Lib.hid (HA5.out.below hb)
  have HV6 := Lib.hid (HV5.out.below hb)
  clear hb
  go_wp2_with fail
  refine (New_any nn w6).mono ?_
  rintro e w7 ⟨y, rfl, hT, hb⟩
  have HB7 := Lib.hid (bnext HB6.out hb)
  have HA7 := Lib.hid (HA6.out.below hb)
  have HV7 := Lib.hid (HV6.out.below hb)
  have HY7 := Lib.hid hT.isV
  clear hb hT
  go_wp2_with fail
  refine (RNew_any nn w7).mono ?_
  rintro e w8 ⟨z, rfl, hT, hb⟩
  have HB8 := Lib.hid (bnext HB7.out hb)
  have HA8 := Lib.hid (HA7.out.below hb)
  have HV8 := Lib.hid (HV7.out.below hb)
  have HY8 := Lib.hid (HY7.out.below hb)
  have HZ8 := Lib.hid hT
  clear hb hT
  go_wp2_with fail
  refine (Same_any w8 y z (newV nn) (newV nn) HY8.out HZ8.out).mono ?_
  rw [same_self]
  rintro e w9 ⟨rfl, hb⟩
  have HB9 := Lib.hid (bnext HB8.out hb)
  have HA9 := Lib.hid (HA8.out.below hb)
  have HV9 := Lib.hid (HV8.out.below hb)
  clear hb HY8 HZ8
  go_upto_region 6 with (fail)
  have v0 : ∀ y : In (Abv w9), y.u.cell? ⟨b, 0, none⟩ = some (.int .i64 x0.nodes) := fun y => (HA9.out.below y.is).cells.1
  have v1 : ∀ y : In (Abv w9), y.u.cell? ⟨b, 1, none⟩ = some (.int .i64 x0.epoch) := fun y => (HA9.out.below y.is).cells.2.1
  have v2 : ∀ y : In (Abv w9), y.u.cell? ⟨b, 2, none⟩ = some (.slice x0.mA x0.mn x0.mc) := fun y => (HA9.out.below y.is).cells.2.2.1
  have v3 : ∀ y : In (Abv w9), y.u.cell? ⟨b, 3, none⟩ = some (.slice x0.dA x0.dn x0.dc) := fun y => (HA9.out.below y.is).cells.2.2.2.1
  have v4 : ∀ y : In (Abv w9), y.u.cell? ⟨b, 4, none⟩ = some (.slice x0.iA x0.ir x0.ic) := fun y => (HA9.out.below y.is).cells.2.2.2.2
  refine wp_region_mix (by kernel_rfl) (Cls (Abv w9)) [(0, 0), (1, 0), (2, 0), (3, 0), (4, 0), (5, 0), (6, 0), (7, 0), (8, 0), (9, 0), (11, 0), (10, 1), (12, 1), (13, 0), (14, 0), (15, 0), (16, 0), (17, 0), (18, 0)] (by kernel_rfl) (cls (Below.refl _ _).drew) ?_
  repeat (refine mix0 rfl (fun K hK => ?_); go_simp; refine hK _ ?_; clear hK K)
  refine mix1 rfl (fun K hK => ?_)
  go_simp
  refine (Check_any _ x0 V0 (HV9.out.below (Below.refl _ _).drew)).mono ?_
  rw [HE.out]
  rintro e wA ⟨rfl, hb⟩
  have Hb3 : Hid (Below w9.heap.size w9 wA) := Lib.hid ((Below.refl _ _).drew.trans hb)
  clear hb
  refine ⟨_, rfl, hK _ _ (cls Hb3.out) ?_⟩
  clear hK K
  repeat (refine mix0 rfl (fun K hK => ?_); go_simp; refine hK _ ?_; clear hK K)
  refine mix1 rfl (fun K hK => ?_)
  go_simp
  refine (RCheck_any _ x0 V0 (HV9.out.below Hb3.out) (by have := HL3.out; omega)).mono ?_
  rw [HE.out]
  rintro e wB ⟨rfl, hb⟩
  have Hb4 : Hid (Below w9.heap.size w9 wB) := Lib.hid (bnext Hb3.out hb)
  clear hb
  refine ⟨_, rfl, hK _ _ (cls Hb4.out) ?_⟩
  clear hK K
  repeat (refine mix0 rfl (fun K hK => ?_); go_simp; refine hK _ ?_; clear hK K)
  refine mixEnd ?_
  clear v0 v1 v2 v3 v4
  have HBB := Lib.hid (bnext HB9.out Hb4.out)
  have HAB := Lib.hid (HA9.out.below Hb4.out)
  have HVB := Lib.hid (HV9.out.below Hb4.out)
  cases hc : chkB V0 with
  | false =>
    have he : E = 1 := by rw [← HE.out]; unfold chkE; rw [hc]; rfl
    subst he
    clear hc
    go_wp2
    go_ret
    exact ⟨rfl, HBB.out⟩
  | true =>
    have he : E = 0 := by rw [← HE.out]; unfold chkE; rw [hc]; rfl
    have Hs : Hid (bytesL V0 = S) := Lib.hid (by rw [← HS.out]; unfold bytesV; rw [hc]; rfl)
    have HR : Hid (readB S = true ∧ parseV S = V0) := Lib.hid (by rw [← Hs.out]; exact read_bytes hc)
    have hl : S.length ≤ 510 := by
      have hK := (ok_iff V0).1 hc
      rw [← Hs.out, bytes_len]
      have := ok_mem8 hK
      have := hK.dl
      have := hK.len
      have := hK.n8
      omega
    subst he
    clear hc
    go_wp2_with fail
    refine (Read_any S (by omega) _).mono ?_
    rintro e wC ⟨y2, F, rfl, hb, hR⟩
    obtain ⟨hF, hY⟩ := hR.1 HR.out.1
    subst hF
    rw [HR.out.2] at hY
    have HBC := Lib.hid (bnext HBB.out hb)
    have HAC := Lib.hid (HAB.out.below hb)
    have HVC := Lib.hid (HVB.out.below hb)
    have HYC := Lib.hid hY
    clear hb hR hY
    obtain ⟨wD, HwD⟩ : ∃ u, Hid (wC.alloc (.cells (vC y2) 25) = u) := ⟨_, Lib.hid rfl⟩
    obtain ⟨q, Hq⟩ : ∃ p, Hid (wC.heap.size = p) := ⟨_, Lib.hid rfl⟩
    have QD : Hid (BoxV wD q y2) := Lib.hid (by rw [← HwD.out, ← Hq.out]; exact BoxV.new wC y2)
    have hb5 : Below wC.heap.size wC wD := by rw [← HwD.out]; exact (Below.refl _ _).alloc (Nat.le_refl _) _
    have HBD := Lib.hid (bnext HBC.out hb5)
    have HAD := Lib.hid (HAC.out.below hb5)
    have HVD := Lib.hid (HVC.out.below hb5)
    have HYD := Lib.hid (HYC.out.below hb5)
    clear hb5
    go_upto_region 11 with (fail)
    rw [show wC.alloc (.cells #[.int .i64 y2.nodes, .int .i64 y2.epoch, .slice y2.mA y2.mn y2.mc, .slice y2.dA y2.dn y2.dc, .slice y2.iA y2.ir y2.ic] 25) = wD from HwD.out, Hq.out]
    obtain ⟨v0, v1, v2, v3, v4⟩ := HAD.out.cells
    obtain ⟨u0, u1, u2, u3, u4⟩ := QD.out.cells
    go_wp2_with fail
    clear v0 v1 v2 v3 v4 u0 u1 u2 u3 u4
    refine (Same_any wD x0 y2 V0 V0 HVD.out HYD.out).mono ?_
    rw [same_self]
    rintro e wE ⟨rfl, hb⟩
    have HBE := Lib.hid (bnext HBD.out hb)
    clear hb
    have hl2 : (S.length : Int) ≤ 510 := by omega
    go_wp2
    go_ret
    exact ⟨rfl, HBE.out⟩
theorem own : ownKnob Try.prog.godebug = none := by kernel_rfl
theorem laidOut : laidOutB Try.prog = true := by kernel_rfl
set_option maxRecDepth 100000 in
theorem lifted (os : Os) (started : os.Started) (H : Type) (enc : TypeId × Value → H) :
    ReturnsInHanded {} Try.checked os 3 .any (Rows.viewBytesSpec.pre6 enc Try.prog Try.f3 Rows.viewBytesRow.domain false) (Rows.viewBytesSpec.post enc Try.prog Try.f3 false true false false) := by
  refine returnsInHanded_of_change (C := Try.checked) own started (by kernel_rfl) Try.func3
    (ChangeSpec.witness6 (enc := enc) (C := Try.checked) false ⟨#[], #[.agg #[.int .i64 0, .int .i64 0, .slice none 0 0, .slice none 0 0, .slice none 0 0], .int .i64 0], []⟩ 8 (by kernel_rfl) (by kernel_rfl) (by kernel_rfl) (by kernel_rfl)) ?_
  intro W base args ds gs before hval0 hW hcnd _
  have hval : ∀ (j : Nat) t v, Try.f3.params[j]? = some t → args[j]? = some v → Value.okWide Try.prog W .any base t v := hval0
  have hW' := hW
  obtain ⟨p, q, hA0, hV, rfl, hfz, hnd⟩ := hW
  have hA : DataW.TrodAll enc Try.prog W 0 (fun _ => true) true Try.f3.params.toList args.toList ds p := hA0
  rw [Try.params3] at hA hval
  obtain ⟨v0, vs0, d0, ds0, p0, q0, hargs, rfl, rfl, h0, r0⟩ := trodAll_cons hA
  obtain ⟨v1, vs1, d1, ds1, p1, q1, rfl, rfl, rfl, h1, r1⟩ := trodAll_cons r0
  obtain ⟨rfl, rfl, rfl⟩ := trodAll_nil r1
  obtain rfl : args = #[v0, v1] := by cases args; simp_all
  obtain ⟨a0, b0, rfl, w0⟩ := open_view (hval 0 25 v0 rfl rfl) h0
  obtain ⟨a1, rfl, rfl, rfl, w1⟩ := open_int Try.underlying3 (hval 1 3 v1 rfl rfl) h1
  clear hA0 hval0
  refine (walk a0 b0 a1 W w0 w1).mono fun e W' ⟨he, bel⟩ => ?_
  subst he
  exact ⟨_, rfl, law_post laidOut (by rw [Try.params3]; decide +kernel) rfl Try.underlying4 rfl hW' (fun _ => rfl) bel⟩
theorem over : Rows.viewBytesRow.holds Try.pinned (OpenSpec.ofChange Rows.viewBytesSpec) :=
  OpenClaim.holds_of_wide 3 Try.f3 rfl rfl rfl rfl rfl rfl rfl ⟨rfl, rfl, rfl, rfl, rfl⟩ rfl rfl rfl rfl rfl (by kernel_rfl) Try.func3 (by kernel_rfl)
    (of_decide_eq_true (by kernel_rfl)) (by unfold Func.isWrapper; first | (rw [if_pos (by decide +kernel)]; kernel_rfl) | (rw [if_neg (by decide +kernel)]; exact ⟨rfl, rfl⟩))
    (fun os started H enc _ => lifted os started H enc)
theorem proved : Rows.ViewBytesSaid := over
end Go.Proofs.Ytnbhjehaecifcaa.viewBytes
