/- ViewChanges: members join, leave, are ready, and the dead are buried, change by change, as the document says; what is handed in stays; what is asked is as it says: for any view to begin with (lists of 30 at most) and any changes (40 of them are done). -/
import Derived.Test.YtfdbkmncgngkjaaRows
import Derived.Test.YtfdbkmncgngkjaaAwake06
import Derived.Test.YtfdbkmncgngkjaaArr
import Derived.Test.YtfdbkmncgngkjaaSt06
import Derived.Test.YtfdbkmncgngkjaaByt06
import Derived.Test.YtfdbkmncgngkjaaRh06
import Derived.Deep.DeepCutAuto
import Derived.Deep.CutBlock
namespace Go.Proofs.Ytfdbkmncgngkjaa.viewChanges
open Go.RowKit Go.ChangeShapes Go.WideShapes Go.ChangeAt
open Go.ChangeMaps (open_string shut_string)

theorem tmod4 (a : Int) : -4 < a.tmod 4 ∧ a.tmod 4 < 4 := by
  rcases Int.le_total 0 a with h | h
  · rw [Int.tmod_eq_emod_of_nonneg h]; omega
  · have : a.tmod 4 = -((-a) % 4) := by rw [← Int.tmod_eq_emod_of_nonneg (by omega), Int.neg_tmod, Int.neg_neg]
    rw [this]; omega
theorem blk_same (A : Option Addr) (n c n' c' : Nat) : blk (.slice A n c) = blk (.slice A n' c') := by cases A <;> rfl
/-- The statement's two boxes. -/
def S2 (a b : Nat) : Nat → Prop := fun h => h = a ∨ h = b
set_option maxRecDepth 100000 in
set_option maxHeartbeats 8000000 in
theorem walk (x : Vx) (V : Vw) (A : Option Addr) (len cap : Nat) (vs : Nat → OpV) (w : World) (hx : IsV w x V) (hvs : IsOps w A len vs) (_ : len ≤ cap) :
    Calls Try.prog 5 #[vV x, .slice A len cap] w fun e w' => e = .returned (.bool true) ∧ Below w.heap.size w w' := by
  have Hvs := Lib.hid hvs
  have hlen : len ≤ 9223372036854775807 := by have := hvs.max; unfold maxLen at this; omega
  have Hx := Lib.hid hx
  clear hvs hx
  go_enter Try.func5, Try.ntmps5
  go_upto_region 1 with (fail)
  obtain ⟨w1, Hw1⟩ : ∃ w1, Hid (w.alloc (.cells (vC x) 25) = w1) := ⟨_, Lib.hid rfl⟩
  obtain ⟨b, Hb⟩ : ∃ b, Hid (w.heap.size = b) := ⟨_, Lib.hid rfl⟩
  have HA1 : Hid (BoxV w1 b x) := Lib.hid (by rw [← Hw1.out, ← Hb.out]; exact BoxV.new w x)
  have HB1 : Hid (Below w.heap.size w w1) := Lib.hid (by rw [← Hw1.out]; exact (Below.refl _ _).alloc (Nat.le_refl _) _)
  rw [show w.alloc (.cells #[.int .i64 x.nodes, .int .i64 x.epoch, .slice x.mA x.mn x.mc, .slice x.dA x.dn x.dc, .slice x.iA x.ir x.ic] 25) = w1 from Hw1.out, Hb.out]
  go_wp2_with fail
  refine (awake_any _).mono ?_
  rintro e w2 ⟨rfl, hb2⟩
  have HB2 : Hid (Below w.heap.size w w2) := Lib.hid (bnext HB1.out hb2)
  have HA2 := Lib.hid (HA1.out.below hb2)
  clear hb2
  obtain ⟨v0, v1, v2, v3, v4⟩ := HA2.out.cells
  go_wp2_with fail
  refine (small_any w2 x V (Hx.out.below HB2.out)).mono ?_
  rintro e w3 ⟨x0, rfl, V0, h3, m3, d3, i3, hb3, c3⟩
  have HB3 : Hid (Below w.heap.size w w3) := Lib.hid (bnext HB2.out hb3)
  have HA3 := Lib.hid (HA2.out.below hb3)
  have HV3 := Lib.hid h3
  have HL3 : Hid (V0.mem.length ≤ 30 ∧ V0.dead.length ≤ 30 ∧ V0.incs.length ≤ 30) := Lib.hid ⟨m3, d3, i3⟩
  clear hb3 h3 m3 d3 i3 v0 v1 v2 v3 v4
  obtain ⟨r0, r1, r2, r3, r4⟩ := HA3.out.cells
  have f0 := HA3.out.free 0
  have f1 := HA3.out.free 1
  have f2 := HA3.out.free 2
  have f3 := HA3.out.free 3
  have f4 := HA3.out.free 4
  go_upto_region 3 with (fail)
  obtain ⟨w4, Hw4⟩ : ∃ u, Hid (setV w3 b x0 = u) := ⟨_, Lib.hid rfl⟩
  have m4 : Mod (· = b) w3 w4 := by rw [← Hw4.out]; exact setV_mod w3 b x0
  have HB4 : Hid (Below w.heap.size w w4) := Lib.hid (bmod HB3.out m4 (Nat.le_of_eq Hb.out))
  have HA4 : Hid (BoxV w4 b x0) := Lib.hid (by rw [← Hw4.out]; exact setV_box HA3.out x0)
  have HI3 : Hid (Li w3 (· = b) x0 V0) := Lib.hid ⟨HV3.out, fun hn i hi e => by
      have := Hx.out.mem.lowB (Nat.lt_of_lt_of_le hn c3.mem.2) i (by rw [← hi, mS, c3.mem.1]; exact blk_same _ _ _ _ _)
      have := Hb.out; omega, fun hn i hi e => by
      have := Hx.out.dead.lowB (Nat.lt_of_lt_of_le hn c3.dead.2) i (by rw [← hi, dS, c3.dead.1]; exact blk_same _ _ _ _ _)
      have := Hb.out; omega, fun hn i hi e => by
      have := Hx.out.incs.lowB (Nat.lt_of_lt_of_le hn c3.incs.2) i (by rw [← hi, iS, c3.incs.1]; exact blk_same _ _ _ _ _)
      have := Hb.out; omega⟩
  have HI4 : Hid (Li w4 (· = b) x0 V0) := Lib.hid (HI3.out.mod m4 (fun i e => e))
  rw [show ((((w3.setCell ⟨b, 0, none⟩ (.int .i64 x0.nodes)).setCell ⟨b, 1, none⟩ (.int .i64 x0.epoch)).setCell ⟨b, 2, none⟩ (.slice x0.mA x0.mn x0.mc)).setCell ⟨b, 3, none⟩ (.slice x0.dA x0.dn x0.dc)).setCell ⟨b, 4, none⟩ (.slice x0.iA x0.ir x0.ic) = w4 from Hw4.out]
  clear r0 r1 r2 r3 r4 f0 f1 f2 f3 f4 m4 c3
  obtain ⟨v0, v1, v2, v3, v4⟩ := HA4.out.cells
  go_upto_region 4 with (fail)
  clear v0 v1 v2 v3 v4
  obtain ⟨w5, Hw5⟩ : ∃ u, Hid (w4.alloc (.cells (vC x0) 25) = u) := ⟨_, Lib.hid rfl⟩
  obtain ⟨c, Hc⟩ : ∃ c, Hid (w4.heap.size = c) := ⟨_, Lib.hid rfl⟩
  have HC5 : Hid (BoxV w5 c x0) := Lib.hid (by rw [← Hw5.out, ← Hc.out]; exact BoxV.new w4 x0)
  have hb5 : Below w4.heap.size w4 w5 := by rw [← Hw5.out]; exact (Below.refl _ _).alloc (Nat.le_refl _) _
  have HB5 : Hid (Below w.heap.size w w5) := Lib.hid (bnext HB4.out hb5)
  have HA5 := Lib.hid (HA4.out.below hb5)
  have Hbc : Hid (b < c) := Lib.hid (by have := HA4.out.lt; have := Hc.out; omega)
  have HI5 : Hid (Li w5 (S2 b c) x0 V0) := Lib.hid ((HI4.out.wider (fun i hi => by
    rcases hi with e | e
    · exact .inl e
    · exact .inr (by have := Hc.out; omega))).below hb5)
  rw [show w4.alloc (.cells #[.int .i64 x0.nodes, .int .i64 x0.epoch, .slice x0.mA x0.mn x0.mc, .slice x0.dA x0.dn x0.dc, .slice x0.iA x0.ir x0.ic] 25) = w5 from Hw5.out, Hc.out]
  clear hb5
  go_wp2
  go_loopw [7, 8, 9, 10, 11, 12, 13, 14, 15, 16, 17, 18, 19, 20, 21, 22, 23, 24, 25, 26, 27, 28, 29, 30, 31, 32, 33, 34] (fun i _ _ _ _ _ _ _ _ _ _ _ _ _ _ _ _ _ _ _ _ _ _ _ _ _ _ _ wr => ∃ (k : Nat) (p q : Vx) (U : Vw), i = .int .i64 (k : Int) ∧ k ≤ len ∧ k ≤ 40 ∧ Hid (Below w.heap.size w wr) ∧ Hid (BoxV wr b p) ∧ Hid (BoxV wr c q) ∧ Hid (Li wr (S2 b c) p U) ∧ Hid (Li wr (S2 b c) q U) ∧ Hid (U.mem.length ≤ 30 + k ∧ U.dead.length ≤ 30 + k ∧ U.incs.length ≤ 30)) (fun i _ _ _ _ _ _ _ _ _ _ _ _ _ _ _ _ _ _ _ _ _ _ _ _ _ _ _ _ => len - (intOf i).toNat)
  case atStart => exact ⟨0, x0, x0, V0, rfl, Nat.zero_le _, Nat.zero_le _, HB5, HA5, HC5, HI5, HI5, HL3⟩
  case round =>
    obtain ⟨k, p, q, U, rfl, hk, hk4, HB, HP, HQ, HI, HJ, HU⟩ := hrel
    by_cases hlt : k < len ∧ k < 40
    case neg =>
      rcases Nat.lt_or_ge k len with h | h
      · have h1 : decide ((k : Int) < (len : Int)) = true := by simpa using h
        have h2 : decide ((k : Int) < 40) = false := by
          have : ¬ k < 40 := fun h2 => hlt ⟨h, h2⟩
          simp; omega
        go_wp2
        go_ret
        exact ⟨rfl, HB.out⟩
      · have h1 : decide ((k : Int) < (len : Int)) = false := by simpa using h
        go_wp2
        go_ret
        exact ⟨rfl, HB.out⟩
    case pos =>
      obtain ⟨hlt, hlt4⟩ := hlt
      obtain ⟨gs, off, eA, hop⟩ := Hvs.out.at HB.out hlt
      subst eA
      obtain ⟨o, Ho⟩ : ∃ o, Hid (vs k = o) := ⟨_, Lib.hid rfl⟩
      rw [Ho.out] at hop
      have hwinc := hop.winc
      have hwkind := hop.wkind
      have o0 := hop.kind
      have o1 := hop.node
      have o2 := hop.by_
      have o3 := hop.inc
      have o4 := hop.own
      clear hop
      go_upto_region 8 with (fail)
      clear o0 o1 o2 o3 o4
      obtain ⟨u1, Hu1⟩ : ∃ u, Hid (wr.alloc (.cells #[.int .i64 o.kind, .int .i64 o.node, .int .i64 o.by_, .int .i64 o.inc, .bool o.own] 40) = u) := ⟨_, Lib.hid rfl⟩
      obtain ⟨go, Hgo⟩ : ∃ go, Hid (wr.heap.size = go) := ⟨_, Lib.hid rfl⟩
      have HO1 : Hid (BoxO u1 go o) := Lib.hid (by rw [← Hu1.out, ← Hgo.out]; exact BoxO.new wr o)
      have Hb1 : Hid (Below wr.heap.size wr u1) := Lib.hid (by rw [← Hu1.out]; exact (Below.refl _ _).alloc (Nat.le_refl _) _)
      rw [show wr.alloc (.cells #[.int .i64 o.kind, .int .i64 o.node, .int .i64 o.by_, .int .i64 o.inc, .bool o.own] 40) = u1 from Hu1.out]
      try rw [Hgo.out]
      have HP1 := Lib.hid (HP.out.below Hb1.out)
      have HQ1 := Lib.hid (HQ.out.below Hb1.out)
      have HJ1 := Lib.hid (HJ.out.below Hb1.out)
      have hwi := Lib.hid hwinc
      have hwk := Lib.hid hwkind
      clear hwinc hwkind
      obtain ⟨o0, o1, o2, o3, o4⟩ := HO1.out.cells
      have q5 := HO1.out.lt
      obtain ⟨v0, v1, v2, v3, v4⟩ := HQ1.out.cells
      go_wp2_with fail
      refine (of_o_any u1 o hwi.out q U HJ1.out.isV (by have := HU.out; omega)).mono ?_
      rintro e u2 ⟨nd, ic, rfl, hb2⟩
      have Hb2 : Hid (Below wr.heap.size wr u2) := Lib.hid (bnext Hb1.out hb2)
      have HO2 := Lib.hid (HO1.out.below hb2)
      have HP2 := Lib.hid (HP1.out.below hb2)
      have HI2 := Lib.hid (HI.out.below Hb2.out)
      clear hb2 o0 o1 o2 o3 o4 q5 v0 v1 v2 v3 v4
      obtain ⟨v0, v1, v2, v3, v4⟩ := HP2.out.cells
      go_wp2_with fail
      obtain ⟨S, HSt⟩ : ∃ S, Hid (bytesV U = S) := ⟨_, Lib.hid rfl⟩
      obtain ⟨E, HE⟩ : ∃ E, Hid (chkE U = E) := ⟨_, Lib.hid rfl⟩
      refine (Bytes_any u2 p U HI2.out.isV).mono ?_
      rw [HSt.out, HE.out]
      rintro e u3 ⟨rfl, hb3⟩
      have Hb3 : Hid (Below wr.heap.size wr u3) := Lib.hid (bnext Hb2.out hb3)
      have HO3 := Lib.hid (HO2.out.below hb3)
      have HP3 := Lib.hid (HP2.out.below hb3)
      clear hb3 v0 v1 v2 v3 v4
      obtain ⟨o0, o1, o2, o3, o4⟩ := HO3.out.cells
      go_upto_if 68 with (fail)
      obtain ⟨z, Hz⟩ : ∃ z, Hid (o.kind.tmod 4 = z) := ⟨_, Lib.hid rfl⟩
      have hz1 : -4 < z ∧ z < 4 := by rw [← Hz.out]; exact tmod4 _
      rw [Hz.out]
      go_cut [13] (fun s wx => ∃ kk : Nat, s = .int .i64 (kk : Int) ∧ kk < 4 ∧ wx = u3)
      case first =>
        by_cases hz0 : z < 0
        · have hd : decide (z < 0) = true := by simpa using hz0
          obtain ⟨kk, hk⟩ : ∃ kk : Nat, z + 4 = (kk : Int) := ⟨(z + 4).toNat, by omega⟩
          go_wp2
          go_meet
          case rel => exact ⟨kk, by first | rfl | rw [hk], by omega, rfl⟩
        · have hd : decide (z < 0) = false := by simpa using hz0
          obtain ⟨kk, rfl⟩ : ∃ kk : Nat, z = (kk : Int) := ⟨z.toNat, by omega⟩
          go_wp2
          go_meet
          case rel => exact ⟨kk, rfl, by omega, rfl⟩
      case rest =>
      clear hz1
      obtain ⟨kk, rfl, hkk, hwc⟩ := hcut
      have hwc' := hwc.symm
      clear hwc
      subst hwc'
      clear o0 o1 o2 o3 o4
      obtain ⟨v0, v1, v2, v3, v4⟩ := HP3.out.cells
      go_upto_region 15 with (fail)
      clear v0 v1 v2 v3 v4
      obtain ⟨u4, H_u4⟩ : ∃ u, Hid (u3.alloc (.cells (vC p) 25) = u) := ⟨_, Lib.hid rfl⟩
      obtain ⟨d, H_d⟩ : ∃ g, Hid (u3.heap.size = g) := ⟨_, Lib.hid rfl⟩
      have HX_d : Hid (BoxV u4 d p) := Lib.hid (by rw [← H_u4.out, ← H_d.out]; exact BoxV.new u3 p)
      have HL_u4 : Hid (Below u3.heap.size u3 u4) := Lib.hid (by rw [← H_u4.out]; exact (Below.refl _ _).alloc (Nat.le_refl _) _)
      rw [show u3.alloc (.cells #[.int .i64 p.nodes, .int .i64 p.epoch, .slice p.mA p.mn p.mc, .slice p.dA p.dn p.dc, .slice p.iA p.ir p.ic] 25) = u4 from H_u4.out]
      try rw [H_d.out]
      have Hb4 : Hid (Below wr.heap.size wr u4) := Lib.hid (bnext Hb3.out HL_u4.out)
      have HS4 : Hid (St w u4 b c d go o p q p U U U) := Lib.hid (by
        have h1 := HP.out.lt
        have h2 := HQ.out.lt
        have h3 := Hgo.out
        have h4 := HO3.out.lt
        have h5 := H_d.out
        have h6 := Hb3.out.size
        have h7 := Hb.out
        have h8 := Hbc.out
        have hw : ∀ i, S3 b c d i → S2 b c i ∨ u3.heap.size ≤ i := fun i hi => by
          rcases hi with e | e | e
          · exact .inl (.inl e)
          · exact .inl (.inr e)
          · exact .inr (by omega)
        exact ⟨bnext HB.out Hb4.out, HP.out.below Hb4.out, HQ.out.below Hb4.out, HX_d.out, HO3.out.below HL_u4.out, ((HI.out.below Hb3.out).wider hw).below HL_u4.out, ((HJ.out.below Hb3.out).wider hw).below HL_u4.out, ((HI.out.below Hb3.out).wider hw).below HL_u4.out, by omega, h8, by omega, by omega, by omega, by omega⟩)
      have Hsm : Hid (Sm U) := Lib.hid ⟨by have := HU.out; omega, by have := HU.out; omega, by have := HU.out; omega⟩
      have Hlm : Hid (U.mem.length ≤ 1000 ∧ U.dead.length ≤ 1000) := Lib.hid ⟨by have := HU.out; omega, by have := HU.out; omega⟩
      clear HI HJ HP HQ HO3 HP3 HI2 HP2 HO2 HQ1 HP1 HJ1 HO1 HX_d
      go_upto_block 2 with (fail)
      go_cut [14, 16, 17, 18, 19, 20, 21, 22, 23, 24, 25, 26, 27, 28, 29, 30, 31] (fun ok _ _ _ _ _ _ _ _ _ _ _ _ _ _ _ _ wx => ∃ (q2 n2 : Vx) (X : Vw), ok = .bool true ∧ Hid (St w wx b c d go o p q2 n2 U X X) ∧ Hid (X.mem.length ≤ 30 + (k + 1) ∧ X.dead.length ≤ 30 + (k + 1) ∧ X.incs.length ≤ 30))
      case first =>
        obtain rfl | rfl | rfl | rfl : kk = 0 ∨ kk = 1 ∨ kk = 2 ∨ kk = 3 := by omega
        · as_aux_lemma =>
            obtain ⟨jn, Hjn⟩ : ∃ jn, Hid (joinN U o.node = jn) := ⟨_, Lib.hid rfl⟩
            have hjj : (jn == jn) = true := by simp
            obtain ⟨X, HX⟩ : ∃ X, Hid (joinV U o.node = X) := ⟨_, Lib.hid rfl⟩
            have Hlen : Hid (X.mem.length ≤ 30 + (k + 1) ∧ X.dead.length ≤ 30 + (k + 1) ∧ X.incs.length ≤ 30) := Lib.hid (by
              have h := join_len U o.node
              rw [HX.out] at h
              have h2 := HU.out
              omega)
            obtain ⟨o0, o1, o2, o3, o4⟩ := HS4.out.ho.cells
            obtain ⟨v0, v1, v2, v3, v4⟩ := HS4.out.hp.cells
            go_wp2_with fail
            refine (Join_any u4 p U HS4.out.lp.isV o.node Hsm.out).mono ?_
            rw [Hjn.out, HX.out]
            rintro e u5 ⟨x2, rfl, ht, hb⟩
            have HS5 := Lib.hid (HS4.out.to hb)
            have HT5 := Lib.hid (HS4.out.told ht)
            clear ht hb
            clear o0 o1 o2 o3 o4 v0 v1 v2 v3 v4
            go_upto_region 23 with (fail)
            obtain ⟨u6, H_u6⟩ : ∃ u, Hid (u5.alloc (.cells (vC x2) 25) = u) := ⟨_, Lib.hid rfl⟩
            obtain ⟨gx, H_gx⟩ : ∃ g, Hid (u5.heap.size = g) := ⟨_, Lib.hid rfl⟩
            have HX_gx : Hid (BoxV u6 gx x2) := Lib.hid (by rw [← H_u6.out, ← H_gx.out]; exact BoxV.new u5 x2)
            have HL_u6 : Hid (Below u5.heap.size u5 u6) := Lib.hid (by rw [← H_u6.out]; exact (Below.refl _ _).alloc (Nat.le_refl _) _)
            rw [show u5.alloc (.cells #[.int .i64 x2.nodes, .int .i64 x2.epoch, .slice x2.mA x2.mn x2.mc, .slice x2.dA x2.dn x2.dc, .slice x2.iA x2.ir x2.ic] 25) = u6 from H_u6.out]
            try rw [H_gx.out]
            have HS6 := Lib.hid (HS5.out.to HL_u6.out)
            have HT6 := Lib.hid (HT5.out.below HL_u6.out)
            obtain ⟨o0, o1, o2, o3, o4⟩ := HS6.out.ho.cells
            obtain ⟨v0, v1, v2, v3, v4⟩ := HS6.out.hq.cells
            go_wp2_with fail
            refine (RJoin_any u6 q U HS6.out.lq.isV Hlm.out.1 Hlm.out.2 o.node).mono ?_
            rw [Hjn.out, HX.out]
            rintro e u7 ⟨y2, rfl, hy, hb, hf⟩
            have HY7 := Lib.hid (HS6.out.far hf hy)
            have HS7 := Lib.hid (HS6.out.to hb)
            have HT7 := Lib.hid (HT6.out.below hb)
            have HX7 := Lib.hid (HX_gx.out.below hb)
            clear hy hb hf
            clear o0 o1 o2 o3 o4 v0 v1 v2 v3 v4
            go_upto_region 24 with (fail)
            obtain ⟨u8, H_u8⟩ : ∃ u, Hid (u7.alloc (.cells (vC y2) 25) = u) := ⟨_, Lib.hid rfl⟩
            obtain ⟨gy, H_gy⟩ : ∃ g, Hid (u7.heap.size = g) := ⟨_, Lib.hid rfl⟩
            have HX_gy : Hid (BoxV u8 gy y2) := Lib.hid (by rw [← H_u8.out, ← H_gy.out]; exact BoxV.new u7 y2)
            have HL_u8 : Hid (Below u7.heap.size u7 u8) := Lib.hid (by rw [← H_u8.out]; exact (Below.refl _ _).alloc (Nat.le_refl _) _)
            rw [show u7.alloc (.cells #[.int .i64 y2.nodes, .int .i64 y2.epoch, .slice y2.mA y2.mn y2.mc, .slice y2.dA y2.dn y2.dc, .slice y2.iA y2.ir y2.ic] 25) = u8 from H_u8.out]
            try rw [H_gy.out]
            have HS8 := Lib.hid (HS7.out.to HL_u8.out)
            have HT8 := Lib.hid (HT7.out.below HL_u8.out)
            have HX8 := Lib.hid (HX7.out.below HL_u8.out)
            have HY8 := Lib.hid (HY7.out.below HL_u8.out)
            have HZ8 := HX_gy
            have hgy : Hid (¬ gy = d) := Lib.hid (by have h1 := HS7.out.hn.lt; have h2 := H_gy.out; omega)
            obtain ⟨v0, v1, v2, v3, v4⟩ := HX8.out.cells
            obtain ⟨r0, r1, r2, r3, r4⟩ := HS8.out.hn.cells
            have f0 := HS8.out.hn.free 0
            have f1 := HS8.out.hn.free 1
            have f2 := HS8.out.hn.free 2
            have f3 := HS8.out.hn.free 3
            have f4 := HS8.out.hn.free 4
            go_upto_region 26 with (fail)
            obtain ⟨u9, Hu9⟩ : ∃ u, Hid (setV u8 d x2 = u) := ⟨_, Lib.hid rfl⟩
            have HS9 : Hid (St w u9 b c d go o p q x2 U U X) := Lib.hid (by rw [← Hu9.out]; exact HS8.out.next HT8.out)
            have HY9 : Hid (Li u9 (S3 b c d) y2 X) := Lib.hid (by rw [← Hu9.out]; exact HY8.out.mod (setV_mod u8 d x2) (fun i e => .inr (.inr e)))
            have HZ9 : Hid (BoxV u9 gy y2) := Lib.hid (by rw [← Hu9.out]; exact HZ8.out.kept (setV_mod u8 d x2) hgy.out)
            rw [show ((((u8.setCell ⟨d, 0, none⟩ (.int .i64 x2.nodes)).setCell ⟨d, 1, none⟩ (.int .i64 x2.epoch)).setCell ⟨d, 2, none⟩ (.slice x2.mA x2.mn x2.mc)).setCell ⟨d, 3, none⟩ (.slice x2.dA x2.dn x2.dc)).setCell ⟨d, 4, none⟩ (.slice x2.iA x2.ir x2.ic) = u9 from Hu9.out]
            clear v0 v1 v2 v3 v4 r0 r1 r2 r3 r4 f0 f1 f2 f3 f4
            obtain ⟨v0, v1, v2, v3, v4⟩ := HZ9.out.cells
            obtain ⟨r0, r1, r2, r3, r4⟩ := HS9.out.hq.cells
            have f0 := HS9.out.hq.free 0
            have f1 := HS9.out.hq.free 1
            have f2 := HS9.out.hq.free 2
            have f3 := HS9.out.hq.free 3
            have f4 := HS9.out.hq.free 4
            have HS10 := Lib.hid (HS9.out.turn HY9.out)
            go_wp2
            go_meet
            exact ⟨y2, x2, X, by first | rfl | simp, HS10, Hlen⟩
        · as_aux_lemma =>
            obtain ⟨jn, Hjn⟩ : ∃ jn, Hid (leaveB U o.by_ o.node = jn) := ⟨_, Lib.hid rfl⟩
            have hjj : (jn == jn) = true := by simp
            obtain ⟨X, HX⟩ : ∃ X, Hid (leaveV U o.by_ o.node = X) := ⟨_, Lib.hid rfl⟩
            have Hlen : Hid (X.mem.length ≤ 30 + (k + 1) ∧ X.dead.length ≤ 30 + (k + 1) ∧ X.incs.length ≤ 30) := Lib.hid (by
              have h := leave_len U o.by_ o.node
              rw [HX.out] at h
              have h2 := HU.out
              obtain ⟨h3, h4, h5⟩ := h
              rw [h5]
              omega)
            obtain ⟨o0, o1, o2, o3, o4⟩ := HS4.out.ho.cells
            obtain ⟨v0, v1, v2, v3, v4⟩ := HS4.out.hp.cells
            go_wp2_with fail
            refine (Leave_any u4 p U HS4.out.lp.isV o.by_ o.node Hsm.out).mono ?_
            rw [Hjn.out, HX.out]
            rintro e u5 ⟨x2, rfl, ht, hb⟩
            have HS5 := Lib.hid (HS4.out.to hb)
            have HT5 := Lib.hid (HS4.out.told ht)
            clear ht hb
            clear o0 o1 o2 o3 o4 v0 v1 v2 v3 v4
            go_upto_region 29 with (fail)
            obtain ⟨u6, H_u6⟩ : ∃ u, Hid (u5.alloc (.cells (vC x2) 25) = u) := ⟨_, Lib.hid rfl⟩
            obtain ⟨gx, H_gx⟩ : ∃ g, Hid (u5.heap.size = g) := ⟨_, Lib.hid rfl⟩
            have HX_gx : Hid (BoxV u6 gx x2) := Lib.hid (by rw [← H_u6.out, ← H_gx.out]; exact BoxV.new u5 x2)
            have HL_u6 : Hid (Below u5.heap.size u5 u6) := Lib.hid (by rw [← H_u6.out]; exact (Below.refl _ _).alloc (Nat.le_refl _) _)
            rw [show u5.alloc (.cells #[.int .i64 x2.nodes, .int .i64 x2.epoch, .slice x2.mA x2.mn x2.mc, .slice x2.dA x2.dn x2.dc, .slice x2.iA x2.ir x2.ic] 25) = u6 from H_u6.out]
            try rw [H_gx.out]
            have HS6 := Lib.hid (HS5.out.to HL_u6.out)
            have HT6 := Lib.hid (HT5.out.below HL_u6.out)
            obtain ⟨o0, o1, o2, o3, o4⟩ := HS6.out.ho.cells
            obtain ⟨v0, v1, v2, v3, v4⟩ := HS6.out.hq.cells
            go_wp2_with fail
            refine (RLeave_any u6 q U HS6.out.lq.isV Hlm.out.1 Hlm.out.2 o.by_ o.node).mono ?_
            rw [Hjn.out, HX.out]
            rintro e u7 ⟨y2, rfl, hy, hb, hf⟩
            have HY7 := Lib.hid (HS6.out.far hf hy)
            have HS7 := Lib.hid (HS6.out.to hb)
            have HT7 := Lib.hid (HT6.out.below hb)
            have HX7 := Lib.hid (HX_gx.out.below hb)
            clear hy hb hf
            clear o0 o1 o2 o3 o4 v0 v1 v2 v3 v4
            go_upto_region 30 with (fail)
            obtain ⟨u8, H_u8⟩ : ∃ u, Hid (u7.alloc (.cells (vC y2) 25) = u) := ⟨_, Lib.hid rfl⟩
            obtain ⟨gy, H_gy⟩ : ∃ g, Hid (u7.heap.size = g) := ⟨_, Lib.hid rfl⟩
            have HX_gy : Hid (BoxV u8 gy y2) := Lib.hid (by rw [← H_u8.out, ← H_gy.out]; exact BoxV.new u7 y2)
            have HL_u8 : Hid (Below u7.heap.size u7 u8) := Lib.hid (by rw [← H_u8.out]; exact (Below.refl _ _).alloc (Nat.le_refl _) _)
            rw [show u7.alloc (.cells #[.int .i64 y2.nodes, .int .i64 y2.epoch, .slice y2.mA y2.mn y2.mc, .slice y2.dA y2.dn y2.dc, .slice y2.iA y2.ir y2.ic] 25) = u8 from H_u8.out]
            try rw [H_gy.out]
            have HS8 := Lib.hid (HS7.out.to HL_u8.out)
            have HT8 := Lib.hid (HT7.out.below HL_u8.out)
            have HX8 := Lib.hid (HX7.out.below HL_u8.out)
            have HY8 := Lib.hid (HY7.out.below HL_u8.out)
            have HZ8 := HX_gy
            have hgy : Hid (¬ gy = d) := Lib.hid (by have h1 := HS7.out.hn.lt; have h2 := H_gy.out; omega)
            obtain ⟨v0, v1, v2, v3, v4⟩ := HX8.out.cells
            obtain ⟨r0, r1, r2, r3, r4⟩ := HS8.out.hn.cells
            have f0 := HS8.out.hn.free 0
            have f1 := HS8.out.hn.free 1
            have f2 := HS8.out.hn.free 2
            have f3 := HS8.out.hn.free 3
            have f4 := HS8.out.hn.free 4
            go_upto_region 32 with (fail)
            obtain ⟨u9, Hu9⟩ : ∃ u, Hid (setV u8 d x2 = u) := ⟨_, Lib.hid rfl⟩
            have HS9 : Hid (St w u9 b c d go o p q x2 U U X) := Lib.hid (by rw [← Hu9.out]; exact HS8.out.next HT8.out)
            have HY9 : Hid (Li u9 (S3 b c d) y2 X) := Lib.hid (by rw [← Hu9.out]; exact HY8.out.mod (setV_mod u8 d x2) (fun i e => .inr (.inr e)))
            have HZ9 : Hid (BoxV u9 gy y2) := Lib.hid (by rw [← Hu9.out]; exact HZ8.out.kept (setV_mod u8 d x2) hgy.out)
            rw [show ((((u8.setCell ⟨d, 0, none⟩ (.int .i64 x2.nodes)).setCell ⟨d, 1, none⟩ (.int .i64 x2.epoch)).setCell ⟨d, 2, none⟩ (.slice x2.mA x2.mn x2.mc)).setCell ⟨d, 3, none⟩ (.slice x2.dA x2.dn x2.dc)).setCell ⟨d, 4, none⟩ (.slice x2.iA x2.ir x2.ic) = u9 from Hu9.out]
            clear v0 v1 v2 v3 v4 r0 r1 r2 r3 r4 f0 f1 f2 f3 f4
            obtain ⟨v0, v1, v2, v3, v4⟩ := HZ9.out.cells
            obtain ⟨r0, r1, r2, r3, r4⟩ := HS9.out.hq.cells
            have f0 := HS9.out.hq.free 0
            have f1 := HS9.out.hq.free 1
            have f2 := HS9.out.hq.free 2
            have f3 := HS9.out.hq.free 3
            have f4 := HS9.out.hq.free 4
            have HS10 := Lib.hid (HS9.out.turn HY9.out)
            go_wp2
            go_meet
            exact ⟨y2, x2, X, by first | rfl | simp, HS10, Hlen⟩
        · as_aux_lemma =>
            obtain ⟨jn, Hjn⟩ : ∃ jn, Hid (readyB U nd ic = jn) := ⟨_, Lib.hid rfl⟩
            have hjj : (jn == jn) = true := by simp
            obtain ⟨X, HX⟩ : ∃ X, Hid (readyV U nd ic = X) := ⟨_, Lib.hid rfl⟩
            have Hlen : Hid (X.mem.length ≤ 30 + (k + 1) ∧ X.dead.length ≤ 30 + (k + 1) ∧ X.incs.length ≤ 30) := Lib.hid (by
              have h := ready_len U nd ic
              rw [HX.out] at h
              have h2 := HU.out
              obtain ⟨h3, h4, h5⟩ := h
              rw [h3, h4, h5]
              omega)
            obtain ⟨o0, o1, o2, o3, o4⟩ := HS4.out.ho.cells
            obtain ⟨v0, v1, v2, v3, v4⟩ := HS4.out.hp.cells
            go_wp2_with fail
            refine (Ready_any u4 p U HS4.out.lp.isV nd ic Hsm.out).mono ?_
            rw [Hjn.out, HX.out]
            rintro e u5 ⟨x2, rfl, ht, hb⟩
            have HS5 := Lib.hid (HS4.out.to hb)
            have HT5 := Lib.hid (HS4.out.told ht)
            clear ht hb
            clear o0 o1 o2 o3 o4 v0 v1 v2 v3 v4
            go_upto_region 35 with (fail)
            obtain ⟨u6, H_u6⟩ : ∃ u, Hid (u5.alloc (.cells (vC x2) 25) = u) := ⟨_, Lib.hid rfl⟩
            obtain ⟨gx, H_gx⟩ : ∃ g, Hid (u5.heap.size = g) := ⟨_, Lib.hid rfl⟩
            have HX_gx : Hid (BoxV u6 gx x2) := Lib.hid (by rw [← H_u6.out, ← H_gx.out]; exact BoxV.new u5 x2)
            have HL_u6 : Hid (Below u5.heap.size u5 u6) := Lib.hid (by rw [← H_u6.out]; exact (Below.refl _ _).alloc (Nat.le_refl _) _)
            rw [show u5.alloc (.cells #[.int .i64 x2.nodes, .int .i64 x2.epoch, .slice x2.mA x2.mn x2.mc, .slice x2.dA x2.dn x2.dc, .slice x2.iA x2.ir x2.ic] 25) = u6 from H_u6.out]
            try rw [H_gx.out]
            have HS6 := Lib.hid (HS5.out.to HL_u6.out)
            have HT6 := Lib.hid (HT5.out.below HL_u6.out)
            obtain ⟨o0, o1, o2, o3, o4⟩ := HS6.out.ho.cells
            obtain ⟨v0, v1, v2, v3, v4⟩ := HS6.out.hq.cells
            go_wp2_with fail
            refine (RReady_any u6 q U HS6.out.lq.isV Hlm.out.1 nd ic).mono ?_
            rw [Hjn.out, HX.out]
            rintro e u7 ⟨y2, rfl, hy, hb, hf⟩
            have HY7 := Lib.hid (HS6.out.far hf hy)
            have HS7 := Lib.hid (HS6.out.to hb)
            have HT7 := Lib.hid (HT6.out.below hb)
            have HX7 := Lib.hid (HX_gx.out.below hb)
            clear hy hb hf
            clear o0 o1 o2 o3 o4 v0 v1 v2 v3 v4
            go_upto_region 36 with (fail)
            obtain ⟨u8, H_u8⟩ : ∃ u, Hid (u7.alloc (.cells (vC y2) 25) = u) := ⟨_, Lib.hid rfl⟩
            obtain ⟨gy, H_gy⟩ : ∃ g, Hid (u7.heap.size = g) := ⟨_, Lib.hid rfl⟩
            have HX_gy : Hid (BoxV u8 gy y2) := Lib.hid (by rw [← H_u8.out, ← H_gy.out]; exact BoxV.new u7 y2)
            have HL_u8 : Hid (Below u7.heap.size u7 u8) := Lib.hid (by rw [← H_u8.out]; exact (Below.refl _ _).alloc (Nat.le_refl _) _)
            rw [show u7.alloc (.cells #[.int .i64 y2.nodes, .int .i64 y2.epoch, .slice y2.mA y2.mn y2.mc, .slice y2.dA y2.dn y2.dc, .slice y2.iA y2.ir y2.ic] 25) = u8 from H_u8.out]
            try rw [H_gy.out]
            have HS8 := Lib.hid (HS7.out.to HL_u8.out)
            have HT8 := Lib.hid (HT7.out.below HL_u8.out)
            have HX8 := Lib.hid (HX7.out.below HL_u8.out)
            have HY8 := Lib.hid (HY7.out.below HL_u8.out)
            have HZ8 := HX_gy
            have hgy : Hid (¬ gy = d) := Lib.hid (by have h1 := HS7.out.hn.lt; have h2 := H_gy.out; omega)
            obtain ⟨v0, v1, v2, v3, v4⟩ := HX8.out.cells
            obtain ⟨r0, r1, r2, r3, r4⟩ := HS8.out.hn.cells
            have f0 := HS8.out.hn.free 0
            have f1 := HS8.out.hn.free 1
            have f2 := HS8.out.hn.free 2
            have f3 := HS8.out.hn.free 3
            have f4 := HS8.out.hn.free 4
            go_upto_region 38 with (fail)
            obtain ⟨u9, Hu9⟩ : ∃ u, Hid (setV u8 d x2 = u) := ⟨_, Lib.hid rfl⟩
            have HS9 : Hid (St w u9 b c d go o p q x2 U U X) := Lib.hid (by rw [← Hu9.out]; exact HS8.out.next HT8.out)
            have HY9 : Hid (Li u9 (S3 b c d) y2 X) := Lib.hid (by rw [← Hu9.out]; exact HY8.out.mod (setV_mod u8 d x2) (fun i e => .inr (.inr e)))
            have HZ9 : Hid (BoxV u9 gy y2) := Lib.hid (by rw [← Hu9.out]; exact HZ8.out.kept (setV_mod u8 d x2) hgy.out)
            rw [show ((((u8.setCell ⟨d, 0, none⟩ (.int .i64 x2.nodes)).setCell ⟨d, 1, none⟩ (.int .i64 x2.epoch)).setCell ⟨d, 2, none⟩ (.slice x2.mA x2.mn x2.mc)).setCell ⟨d, 3, none⟩ (.slice x2.dA x2.dn x2.dc)).setCell ⟨d, 4, none⟩ (.slice x2.iA x2.ir x2.ic) = u9 from Hu9.out]
            clear v0 v1 v2 v3 v4 r0 r1 r2 r3 r4 f0 f1 f2 f3 f4
            obtain ⟨v0, v1, v2, v3, v4⟩ := HZ9.out.cells
            obtain ⟨r0, r1, r2, r3, r4⟩ := HS9.out.hq.cells
            have f0 := HS9.out.hq.free 0
            have f1 := HS9.out.hq.free 1
            have f2 := HS9.out.hq.free 2
            have f3 := HS9.out.hq.free 3
            have f4 := HS9.out.hq.free 4
            have HS10 := Lib.hid (HS9.out.turn HY9.out)
            go_wp2
            go_meet
            exact ⟨y2, x2, X, by first | rfl | simp, HS10, Hlen⟩
        · as_aux_lemma =>
            obtain ⟨jn, Hjn⟩ : ∃ jn, Hid (buryB U nd ic = jn) := ⟨_, Lib.hid rfl⟩
            have hjj : (jn == jn) = true := by simp
            obtain ⟨X, HX⟩ : ∃ X, Hid (buryV U nd ic = X) := ⟨_, Lib.hid rfl⟩
            have Hlen : Hid (X.mem.length ≤ 30 + (k + 1) ∧ X.dead.length ≤ 30 + (k + 1) ∧ X.incs.length ≤ 30) := Lib.hid (by
              have h := bury_len U nd ic
              rw [HX.out] at h
              have h2 := HU.out
              obtain ⟨h3, h4, h5⟩ := h
              rw [h3, h5]
              omega)
            obtain ⟨o0, o1, o2, o3, o4⟩ := HS4.out.ho.cells
            obtain ⟨v0, v1, v2, v3, v4⟩ := HS4.out.hp.cells
            go_wp2_with fail
            refine (Bury_any u4 p U HS4.out.lp.isV nd ic Hsm.out).mono ?_
            rw [Hjn.out, HX.out]
            rintro e u5 ⟨x2, rfl, ht, hb⟩
            have HS5 := Lib.hid (HS4.out.to hb)
            have HT5 := Lib.hid (HS4.out.told ht)
            clear ht hb
            clear o0 o1 o2 o3 o4 v0 v1 v2 v3 v4
            go_upto_region 17 with (fail)
            obtain ⟨u6, H_u6⟩ : ∃ u, Hid (u5.alloc (.cells (vC x2) 25) = u) := ⟨_, Lib.hid rfl⟩
            obtain ⟨gx, H_gx⟩ : ∃ g, Hid (u5.heap.size = g) := ⟨_, Lib.hid rfl⟩
            have HX_gx : Hid (BoxV u6 gx x2) := Lib.hid (by rw [← H_u6.out, ← H_gx.out]; exact BoxV.new u5 x2)
            have HL_u6 : Hid (Below u5.heap.size u5 u6) := Lib.hid (by rw [← H_u6.out]; exact (Below.refl _ _).alloc (Nat.le_refl _) _)
            rw [show u5.alloc (.cells #[.int .i64 x2.nodes, .int .i64 x2.epoch, .slice x2.mA x2.mn x2.mc, .slice x2.dA x2.dn x2.dc, .slice x2.iA x2.ir x2.ic] 25) = u6 from H_u6.out]
            try rw [H_gx.out]
            have HS6 := Lib.hid (HS5.out.to HL_u6.out)
            have HT6 := Lib.hid (HT5.out.below HL_u6.out)
            obtain ⟨o0, o1, o2, o3, o4⟩ := HS6.out.ho.cells
            obtain ⟨v0, v1, v2, v3, v4⟩ := HS6.out.hq.cells
            go_wp2_with fail
            refine (RBury_any u6 q U HS6.out.lq.isV Hlm.out.1 Hlm.out.2 nd ic).mono ?_
            rw [Hjn.out, HX.out]
            rintro e u7 ⟨y2, rfl, hy, hb, hf⟩
            have HY7 := Lib.hid (HS6.out.far hf hy)
            have HS7 := Lib.hid (HS6.out.to hb)
            have HT7 := Lib.hid (HT6.out.below hb)
            have HX7 := Lib.hid (HX_gx.out.below hb)
            clear hy hb hf
            clear o0 o1 o2 o3 o4 v0 v1 v2 v3 v4
            go_upto_region 18 with (fail)
            obtain ⟨u8, H_u8⟩ : ∃ u, Hid (u7.alloc (.cells (vC y2) 25) = u) := ⟨_, Lib.hid rfl⟩
            obtain ⟨gy, H_gy⟩ : ∃ g, Hid (u7.heap.size = g) := ⟨_, Lib.hid rfl⟩
            have HX_gy : Hid (BoxV u8 gy y2) := Lib.hid (by rw [← H_u8.out, ← H_gy.out]; exact BoxV.new u7 y2)
            have HL_u8 : Hid (Below u7.heap.size u7 u8) := Lib.hid (by rw [← H_u8.out]; exact (Below.refl _ _).alloc (Nat.le_refl _) _)
            rw [show u7.alloc (.cells #[.int .i64 y2.nodes, .int .i64 y2.epoch, .slice y2.mA y2.mn y2.mc, .slice y2.dA y2.dn y2.dc, .slice y2.iA y2.ir y2.ic] 25) = u8 from H_u8.out]
            try rw [H_gy.out]
            have HS8 := Lib.hid (HS7.out.to HL_u8.out)
            have HT8 := Lib.hid (HT7.out.below HL_u8.out)
            have HX8 := Lib.hid (HX7.out.below HL_u8.out)
            have HY8 := Lib.hid (HY7.out.below HL_u8.out)
            have HZ8 := HX_gy
            have hgy : Hid (¬ gy = d) := Lib.hid (by have h1 := HS7.out.hn.lt; have h2 := H_gy.out; omega)
            obtain ⟨v0, v1, v2, v3, v4⟩ := HX8.out.cells
            obtain ⟨r0, r1, r2, r3, r4⟩ := HS8.out.hn.cells
            have f0 := HS8.out.hn.free 0
            have f1 := HS8.out.hn.free 1
            have f2 := HS8.out.hn.free 2
            have f3 := HS8.out.hn.free 3
            have f4 := HS8.out.hn.free 4
            go_upto_region 20 with (fail)
            obtain ⟨u9, Hu9⟩ : ∃ u, Hid (setV u8 d x2 = u) := ⟨_, Lib.hid rfl⟩
            have HS9 : Hid (St w u9 b c d go o p q x2 U U X) := Lib.hid (by rw [← Hu9.out]; exact HS8.out.next HT8.out)
            have HY9 : Hid (Li u9 (S3 b c d) y2 X) := Lib.hid (by rw [← Hu9.out]; exact HY8.out.mod (setV_mod u8 d x2) (fun i e => .inr (.inr e)))
            have HZ9 : Hid (BoxV u9 gy y2) := Lib.hid (by rw [← Hu9.out]; exact HZ8.out.kept (setV_mod u8 d x2) hgy.out)
            rw [show ((((u8.setCell ⟨d, 0, none⟩ (.int .i64 x2.nodes)).setCell ⟨d, 1, none⟩ (.int .i64 x2.epoch)).setCell ⟨d, 2, none⟩ (.slice x2.mA x2.mn x2.mc)).setCell ⟨d, 3, none⟩ (.slice x2.dA x2.dn x2.dc)).setCell ⟨d, 4, none⟩ (.slice x2.iA x2.ir x2.ic) = u9 from Hu9.out]
            clear v0 v1 v2 v3 v4 r0 r1 r2 r3 r4 f0 f1 f2 f3 f4
            obtain ⟨v0, v1, v2, v3, v4⟩ := HZ9.out.cells
            obtain ⟨r0, r1, r2, r3, r4⟩ := HS9.out.hq.cells
            have f0 := HS9.out.hq.free 0
            have f1 := HS9.out.hq.free 1
            have f2 := HS9.out.hq.free 2
            have f3 := HS9.out.hq.free 3
            have f4 := HS9.out.hq.free 4
            have HS10 := Lib.hid (HS9.out.turn HY9.out)
            go_wp2
            go_meet
            exact ⟨y2, x2, X, by first | rfl | simp, HS10, Hlen⟩
      case rest =>
        obtain ⟨q2, n2, X, rfl, HS, HL⟩ := hcut
        obtain ⟨v0, v1, v2, v3, v4⟩ := HS.out.hp.cells
        go_wp2_with fail
        refine (Bytes_any _ p U HS.out.lp.isV).mono ?_
        rw [HSt.out, HE.out]
        rintro e t1 ⟨rfl, hb⟩
        have HT1 := Lib.hid (HS.out.to hb)
        clear hb
        clear v0 v1 v2 v3 v4
        obtain ⟨v0, v1, v2, v3, v4⟩ := HT1.out.hn.cells
        obtain ⟨r0, r1, r2, r3, r4⟩ := HT1.out.hp.cells
        have f0 := HT1.out.hp.free 0
        have f1 := HT1.out.hp.free 1
        have f2 := HT1.out.hp.free 2
        have f3 := HT1.out.hp.free 3
        have f4 := HT1.out.hp.free 4
        go_upto_region 41 with (fail)
        obtain ⟨t2, Ht2⟩ : ∃ u, Hid (setV t1 b n2 = u) := ⟨_, Lib.hid rfl⟩
        have HT2 : Hid (St w t2 b c d go o n2 q2 n2 X X X) := Lib.hid (by rw [← Ht2.out]; exact HT1.out.go)
        rw [show ((((t1.setCell ⟨b, 0, none⟩ (.int .i64 n2.nodes)).setCell ⟨b, 1, none⟩ (.int .i64 n2.epoch)).setCell ⟨b, 2, none⟩ (.slice n2.mA n2.mn n2.mc)).setCell ⟨b, 3, none⟩ (.slice n2.dA n2.dn n2.dc)).setCell ⟨b, 4, none⟩ (.slice n2.iA n2.ir n2.ic) = t2 from Ht2.out]
        clear v0 v1 v2 v3 v4 r0 r1 r2 r3 r4 f0 f1 f2 f3 f4
        obtain ⟨v0, v1, v2, v3, v4⟩ := HT2.out.hp.cells
        obtain ⟨r0, r1, r2, r3, r4⟩ := HT2.out.hq.cells
        go_wp2_with fail
        refine (Same_any _ n2 q2 X X HT2.out.lp.isV HT2.out.lq.isV).mono ?_
        rw [sameB_refl]
        rintro e t3 ⟨rfl, hb⟩
        have HT3 := Lib.hid (HT2.out.to hb)
        clear hb
        clear v0 v1 v2 v3 v4 r0 r1 r2 r3 r4
        obtain ⟨inc, Hinc⟩ : ∃ x, Hid (incOf X o.node = x) := ⟨_, Lib.hid rfl⟩
        obtain ⟨chf, Hchf⟩ : ∃ x, Hid (chiefI X = x) := ⟨_, Lib.hid rfl⟩
        have Hchf2 : Hid (lstTo X.mem = chf) := Lib.hid ((chief_eq X).symm.trans Hchf.out)
        obtain ⟨en, Hen⟩ : ∃ x, Hid (enoughB X = x) := ⟨_, Lib.hid rfl⟩
        obtain ⟨op, Hop⟩ : ∃ x, Hid (openB X = x) := ⟨_, Lib.hid rfl⟩
        obtain ⟨ky, Hky⟩ : ∃ x, Hid (keyOf o.node o.inc = x) := ⟨_, Lib.hid rfl⟩
        have Hml : Hid (X.mem.length ≤ 1000) := Lib.hid (by have := HL.out; omega)
        have hS : (S == S) = true := by simp
        go_upto_region 42 with (fail)
        have k0 : ∀ y : In (Abv t3), y.u.cell? ⟨b, 0, none⟩ = some (.int .i64 n2.nodes) := fun y => (HT3.out.to y.is).hp.cells.1
        have m0 : ∀ y : In (Abv t3), y.u.cell? ⟨c, 0, none⟩ = some (.int .i64 q2.nodes) := fun y => (HT3.out.to y.is).hq.cells.1
        have k1 : ∀ y : In (Abv t3), y.u.cell? ⟨b, 1, none⟩ = some (.int .i64 n2.epoch) := fun y => (HT3.out.to y.is).hp.cells.2.1
        have m1 : ∀ y : In (Abv t3), y.u.cell? ⟨c, 1, none⟩ = some (.int .i64 q2.epoch) := fun y => (HT3.out.to y.is).hq.cells.2.1
        have k2 : ∀ y : In (Abv t3), y.u.cell? ⟨b, 2, none⟩ = some (.slice n2.mA n2.mn n2.mc) := fun y => (HT3.out.to y.is).hp.cells.2.2.1
        have m2 : ∀ y : In (Abv t3), y.u.cell? ⟨c, 2, none⟩ = some (.slice q2.mA q2.mn q2.mc) := fun y => (HT3.out.to y.is).hq.cells.2.2.1
        have k3 : ∀ y : In (Abv t3), y.u.cell? ⟨b, 3, none⟩ = some (.slice n2.dA n2.dn n2.dc) := fun y => (HT3.out.to y.is).hp.cells.2.2.2.1
        have m3 : ∀ y : In (Abv t3), y.u.cell? ⟨c, 3, none⟩ = some (.slice q2.dA q2.dn q2.dc) := fun y => (HT3.out.to y.is).hq.cells.2.2.2.1
        have k4 : ∀ y : In (Abv t3), y.u.cell? ⟨b, 4, none⟩ = some (.slice n2.iA n2.ir n2.ic) := fun y => (HT3.out.to y.is).hp.cells.2.2.2.2
        have m4 : ∀ y : In (Abv t3), y.u.cell? ⟨c, 4, none⟩ = some (.slice q2.iA q2.ir q2.ic) := fun y => (HT3.out.to y.is).hq.cells.2.2.2.2
        have c1 : ∀ y : In (Abv t3), y.u.cell? ⟨go, 1, none⟩ = some (.int .i64 o.node) := fun y => (HT3.out.to y.is).ho.cells.2.1
        have c3 : ∀ y : In (Abv t3), y.u.cell? ⟨go, 3, none⟩ = some (.int .i64 o.inc) := fun y => (HT3.out.to y.is).ho.cells.2.2.2.1
        refine wp_region_mix (by kernel_rfl) (Cls (Abv t3)) [(0, 0), (1, 0), (2, 0), (3, 0), (4, 0), (5, 0), (6, 0), (7, 0), (8, 0), (9, 0), (10, 0), (11, 0), (12, 0), (13, 0), (14, 0), (16, 0), (17, 0), (18, 0), (15, 1), (19, 1), (20, 0), (21, 0), (22, 0), (23, 0), (25, 0), (24, 1), (26, 1), (27, 0), (28, 0), (29, 0), (30, 0), (32, 0), (31, 1), (33, 1), (34, 0), (35, 0), (36, 0), (37, 0), (39, 0), (38, 1), (40, 1), (41, 0), (42, 0), (43, 0), (44, 0), (45, 0), (46, 0), (47, 0), (49, 0), (50, 0), (51, 0), (52, 0), (48, 1), (53, 1), (54, 0), (55, 0)] (by kernel_rfl) (cls (Below.refl _ _).drew) ?_
        repeat (refine mix0 rfl (fun K hK => ?_); go_simp; refine hK _ ?_; clear hK K)
        refine mix1 rfl (fun K hK => ?_)
        go_simp
        refine (Inc_any _ n2 X (HT3.out.to (Below.refl _ _).drew).lp.isV o.node).mono ?_
        rw [Hinc.out]
        rintro e s1 ⟨rfl, hb⟩
        have Q1 : Hid (Below t3.heap.size t3 s1) := Lib.hid (bnext (Below.refl _ _).drew hb)
        clear hb
        refine ⟨_, rfl, hK _ _ (cls Q1.out) ?_⟩
        clear hK K
        repeat (refine mix0 rfl (fun K hK => ?_); go_simp; refine hK _ ?_; clear hK K)
        refine mix1 rfl (fun K hK => ?_)
        go_simp
        refine (RInc_any _ q2 X (HT3.out.to Q1.out).lq.isV o.node).mono ?_
        rw [Hinc.out]
        rintro e s2 ⟨rfl, hb⟩
        have Q2 : Hid (Below t3.heap.size t3 s2) := Lib.hid (bnext Q1.out hb)
        clear hb
        refine ⟨_, rfl, hK _ _ (cls Q2.out) ?_⟩
        clear hK K
        repeat (refine mix0 rfl (fun K hK => ?_); go_simp; refine hK _ ?_; clear hK K)
        refine mix1 rfl (fun K hK => ?_)
        go_simp
        refine (Chief_any _ n2 X (HT3.out.to Q2.out).lp.isV).mono ?_
        rw [Hchf.out]
        rintro e s3 ⟨rfl, hb⟩
        have Q3 : Hid (Below t3.heap.size t3 s3) := Lib.hid (bnext Q2.out hb)
        clear hb
        refine ⟨_, rfl, hK _ _ (cls Q3.out) ?_⟩
        clear hK K
        repeat (refine mix0 rfl (fun K hK => ?_); go_simp; refine hK _ ?_; clear hK K)
        refine mix1 rfl (fun K hK => ?_)
        go_simp
        refine (RChief_any _ q2 X (HT3.out.to Q3.out).lq.isV Hml.out).mono ?_
        rw [Hchf2.out]
        rintro e s4 ⟨rfl, hb⟩
        have Q4 : Hid (Below t3.heap.size t3 s4) := Lib.hid (bnext Q3.out hb)
        clear hb
        refine ⟨_, rfl, hK _ _ (cls Q4.out) ?_⟩
        clear hK K
        repeat (refine mix0 rfl (fun K hK => ?_); go_simp; refine hK _ ?_; clear hK K)
        refine mix1 rfl (fun K hK => ?_)
        go_simp
        refine (Enough_any _ n2 X (HT3.out.to Q4.out).lp.isV Hml.out).mono ?_
        rw [Hen.out]
        rintro e s5 ⟨rfl, hb⟩
        have Q5 : Hid (Below t3.heap.size t3 s5) := Lib.hid (bnext Q4.out hb)
        clear hb
        refine ⟨_, rfl, hK _ _ (cls Q5.out) ?_⟩
        clear hK K
        repeat (refine mix0 rfl (fun K hK => ?_); go_simp; refine hK _ ?_; clear hK K)
        refine mix1 rfl (fun K hK => ?_)
        go_simp
        refine (REnough_any _ q2 X (HT3.out.to Q5.out).lq.isV Hml.out).mono ?_
        rw [Hen.out]
        rintro e s6 ⟨rfl, hb⟩
        have Q6 : Hid (Below t3.heap.size t3 s6) := Lib.hid (bnext Q5.out hb)
        clear hb
        refine ⟨_, rfl, hK _ _ (cls Q6.out) ?_⟩
        clear hK K
        repeat (refine mix0 rfl (fun K hK => ?_); go_simp; refine hK _ ?_; clear hK K)
        refine mix1 rfl (fun K hK => ?_)
        go_simp
        refine (Open_any _ n2 X (HT3.out.to Q6.out).lp.isV Hml.out).mono ?_
        rw [Hop.out]
        rintro e s7 ⟨rfl, hb⟩
        have Q7 : Hid (Below t3.heap.size t3 s7) := Lib.hid (bnext Q6.out hb)
        clear hb
        refine ⟨_, rfl, hK _ _ (cls Q7.out) ?_⟩
        clear hK K
        repeat (refine mix0 rfl (fun K hK => ?_); go_simp; refine hK _ ?_; clear hK K)
        refine mix1 rfl (fun K hK => ?_)
        go_simp
        refine (ROpen_any _ q2 X (HT3.out.to Q7.out).lq.isV Hml.out).mono ?_
        rw [Hop.out]
        rintro e s8 ⟨rfl, hb⟩
        have Q8 : Hid (Below t3.heap.size t3 s8) := Lib.hid (bnext Q7.out hb)
        clear hb
        refine ⟨_, rfl, hK _ _ (cls Q8.out) ?_⟩
        clear hK K
        repeat (refine mix0 rfl (fun K hK => ?_); go_simp; refine hK _ ?_; clear hK K)
        refine mix1 rfl (fun K hK => ?_)
        go_simp
        refine (Key_any o.node o.inc _).mono ?_
        rw [Hky.out]
        rintro e s9 ⟨rfl, rfl⟩
        refine ⟨_, rfl, hK _ _ (cls Q8.out) ?_⟩
        clear hK K
        repeat (refine mix0 rfl (fun K hK => ?_); go_simp; refine hK _ ?_; clear hK K)
        refine mix1 rfl (fun K hK => ?_)
        go_simp
        refine (RKey_any o.node o.inc _).mono ?_
        rw [Hky.out]
        rintro e s10 ⟨rfl, rfl⟩
        refine ⟨_, rfl, hK _ _ (cls Q8.out) ?_⟩
        clear hK K
        repeat (refine mix0 rfl (fun K hK => ?_); go_simp; refine hK _ ?_; clear hK K)
        refine mixEnd ?_
        clear k0 k1 k2 k3 k4 m0 m1 m2 m3 m4 c1 c3
        have HF := Lib.hid (HT3.out.to Q8.out)
        have hw2 : ∀ (u : World) i, S2 b c i → S3 b c d i ∨ u.heap.size ≤ i := fun u i hi => by
          rcases hi with e | e
          · exact .inl (.inl e)
          · exact .inl (.inr (.inl e))
        go_wp2
        go_roundw
        case rel => exact ⟨k + 1, n2, q2, X, by go_num, by omega, by omega, Lib.hid HF.out.below, Lib.hid HF.out.hp, Lib.hid HF.out.hq, Lib.hid (HF.out.lp.wider (hw2 _)), Lib.hid (HF.out.lq.wider (hw2 _)), HL⟩
        case measure => simp [intOf]; omega
theorem own : ownKnob Try.prog.godebug = none := by kernel_rfl
theorem laidOut : laidOutB Try.prog = true := by kernel_rfl
set_option maxRecDepth 100000 in
theorem lifted (os : Os) (started : os.Started) (H : Type) (enc : TypeId × Value → H) :
    ReturnsInHanded {} Try.checked os 5 .any (Rows.viewChangesSpec.pre6 enc Try.prog Try.f5 Rows.viewChangesRow.domain false) (Rows.viewChangesSpec.post enc Try.prog Try.f5 false true false false) := by
  refine returnsInHanded_of_change (C := Try.checked) own started (by kernel_rfl) Try.func5
    (ChangeSpec.witness6 (enc := enc) (C := Try.checked) false ⟨#[], #[.agg #[.int .i64 0, .int .i64 0, .slice none 0 0, .slice none 0 0, .slice none 0 0], .slice none 0 0], []⟩ 8 (by kernel_rfl) (by kernel_rfl) (by kernel_rfl) (by kernel_rfl)) ?_
  intro W base args ds gs before hval0 hW hcnd _
  have hval : ∀ (j : Nat) t v, Try.f5.params[j]? = some t → args[j]? = some v → Value.okWide Try.prog W .any base t v := hval0
  have hW' := hW
  obtain ⟨p, q, hA0, hV, rfl, hfz, hnd⟩ := hW
  have hA : DataW.TrodAll enc Try.prog W 0 (fun _ => true) true Try.f5.params.toList args.toList ds p := hA0
  rw [Try.params5] at hA hval
  obtain ⟨v0, vs0, d0, ds0, p0, q0, hargs, rfl, rfl, h0, r0⟩ := trodAll_cons hA
  obtain ⟨v1, vs1, d1, ds1, p1, q1, rfl, rfl, rfl, h1, r1⟩ := trodAll_cons r0
  obtain ⟨rfl, rfl, rfl⟩ := trodAll_nil r1
  obtain rfl : args = #[v0, v1] := by cases args; simp_all
  obtain ⟨a0, b0, rfl, w0⟩ := open_view (hval 0 25 v0 rfl rfl) h0
  obtain ⟨x1, len1, cap1, a1, rfl, w1, y1⟩ := opens_ops (hval 1 38 v1 rfl rfl) h1
  clear hA0 hval0
  refine (walk a0 b0 x1 len1 cap1 a1 W w0 w1 y1).mono fun e W' ⟨he, bel⟩ => ?_
  subst he
  exact ⟨_, rfl, law_post laidOut (by rw [Try.params5]; decide +kernel) rfl Try.underlying4 rfl hW' (fun _ => rfl) bel⟩
theorem over : Rows.viewChangesRow.holds Try.pinned (OpenSpec.ofChange Rows.viewChangesSpec) :=
  OpenClaim.holds_of_wide 5 Try.f5 rfl rfl rfl rfl rfl rfl rfl ⟨rfl, rfl, rfl, rfl, rfl⟩ rfl rfl rfl rfl rfl (by kernel_rfl) Try.func5 (by kernel_rfl)
    (of_decide_eq_true (by kernel_rfl)) (by unfold Func.isWrapper; first | (rw [if_pos (by decide +kernel)]; kernel_rfl) | (rw [if_neg (by decide +kernel)]; exact ⟨rfl, rfl⟩))
    (fun os started H enc _ => lifted os started H enc)
theorem proved : Rows.ViewChangesSaid := over
end Go.Proofs.Ytfdbkmncgngkjaa.viewChanges
