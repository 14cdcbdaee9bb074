/- P14.1 and P14.2: which inodes may be, their bytes, read again. -/
import Derived.Test.YtdlbibhekoobjaaRows
import Derived.Test.YtdlbibhekoobjaaIx2
import Derived.Test.YtdlbibhekoobjaaIo14
import Derived.Test.YtdlbibhekoobjaaIr2
import Derived.Test.YtdlbibhekoobjaaIb14
namespace Go.Proofs.Ytdlbibhekoobjaa.inodeBytes
open Go.RowKit Go.ChangeShapes Go.WideShapes Go.ChangeAt
open Go.ChangeMaps (open_string shut_string)

set_option maxRecDepth 100000 in
set_option maxHeartbeats 1000000 in
theorem INew_any (k : Int) (w : World) :
    Calls Try.prog 15 #[.int .i64 k] w fun e w' => e = .returned (inoV ⟨k, 1, 0, []⟩ none 0 0) ∧ Below w.heap.size w w' := by
  go_enter Try.func15, Try.ntmps15
  go_wp2
  refine bodyPost_ret (v := inoV ⟨k, 1, 0, []⟩ none 0 0) ?_ rfl ⟨rfl, ?_⟩
  · rw [results_one rfl]
    go_simp
    all_goals first | rfl | ((repeat' apply And.intro) <;> rfl)
  · repeat (first | exact balloc (Below.refl _ w) _ | refine Below.setCell ?_ (Nat.le_refl _) _)
set_option maxRecDepth 100000 in
set_option maxHeartbeats 4000000 in
theorem walk (x : Ino) (A : Option Addr) (n c : Nat) (k : Int) (w : World) (hx : IsG w 1 encI A n x.d ∧ n ≤ c ∧ c ≤ maxLen ∧ (Lit.int .i64 x.s).wf = true) (_ : (Lit.int .i64 k).wf = true) :
    Calls Try.prog 3 #[inoV x A n c, .int .i64 k] w fun e w' => e = .returned (.bool true) ∧ Below w.heap.size w w' := by
  obtain ⟨hx1, hx2, hx3, hx4⟩ := hx
  have Hx1 := Lib.hid hx1
  have Hwx : Hid ((Lit.int .i64 (smallI x).s).wf = true) := Lib.hid hx4
  obtain ⟨p, Hp⟩ : ∃ p, Hid (w.heap.size = p) := ⟨_, Lib.hid rfl⟩
  obtain ⟨W, HW⟩ : ∃ z, Hid (w.alloc (.cells #[.int .i64 x.k, .int .i64 x.l, .int .i64 x.s, .slice A n c] 24) = z) := ⟨_, Lib.hid rfl⟩
  have BW : Hid (Below p w W) := Lib.hid (by rw [← HW.out, ← Hp.out]; exact balloc (Below.refl _ w) _)
  have HI : Hid (InoF W p x A n c) := Lib.hid (by rw [← HW.out, ← Hp.out]; exact InoF.new w x A n c _)
  have hW := HW.out
  have hp := Hp.out
  rw [inoV]
  clear hx1 hx4
  go_enter Try.func3, Try.ntmps3
  go_wp2_with fail
  refine (awk14_any _).mono ?_
  rintro e w1 ⟨rfl, hb⟩
  have B1 : Hid (Below p w w1) := Lib.hid (BW.out.trans (hb.mono (by have := HI.out.ino.lt; omega)))
  have HI1 := Lib.hid (HI.out.below hb)
  clear hb hW hp
  have lt1 := HI1.out.ino.lt
  obtain ⟨c0, c1, c2, c3⟩ := HI1.out.ino
  go_wp2_with fail
  refine (smallI_any x A n c hx2 hx3 _ (Hx1.out.below (by rw [← Hp.out] at B1; exact B1.out))).mono ?_
  rintro e w2 ⟨n', rfl, hn', hg, hb⟩
  obtain ⟨X, HX⟩ : ∃ X, Hid (smallI x = X) := ⟨_, Lib.hid rfl⟩
  rw [HX.out] at hg Hwx ⊢
  have GX : Hid (∀ u, Below w.heap.size w u → IsG u 1 encI A n' X.d) := Lib.hid (fun u hu => hg u (Hx1.out.below hu))
  have B2 : Hid (Below p w w2) := Lib.hid (B1.out.trans (hb.mono (by omega)))
  have HI2 := Lib.hid (HI1.out.below hb)
  clear hb hg c0 c1 c2 c3 lt1
  obtain ⟨W3, HW3⟩ : ∃ z, Hid ((((w2.setCell ⟨p, 0, none⟩ (.int .i64 X.k)).setCell ⟨p, 1, none⟩ (.int .i64 X.l)).setCell ⟨p, 2, none⟩ (.int .i64 X.s)).setCell ⟨p, 3, none⟩ (.slice A n' c) = z) := ⟨_, Lib.hid rfl⟩
  have HI3 : Hid (InoF W3 p X A n' c) := Lib.hid (by rw [← HW3.out]; exact HI2.out.put X A n' c)
  have M3 : Hid (Mod (· = p) w2 W3) := Lib.hid (by rw [← HW3.out]; exact ((((Mod.refl _ w2).set1 _).set1 _).set1 _).set1 _)
  have B3 : Hid (Below w.heap.size w W3) := Lib.hid (by rw [Hp.out]; exact M3.out.below B2.out (by have := HI2.out.ino.lt; omega) (by rintro i rfl; exact Nat.le_refl _))
  have hW3 := HW3.out
  have lt1 := HI2.out.ino.lt
  obtain ⟨c0, c1, c2, c3⟩ := HI2.out.ino
  have f0 := HI2.out.free 0 (by omega)
  have f1 := HI2.out.free 1 (by omega)
  have f2 := HI2.out.free 2 (by omega)
  have f3 := HI2.out.free 3 (by omega)
  have lt3 := HI3.out.ino.lt
  obtain ⟨d0, d1, d2, d3⟩ := HI3.out.ino
  obtain ⟨S, HS⟩ : ∃ z, Hid (inoBy X = z) := ⟨_, Lib.hid rfl⟩
  obtain ⟨E, HE⟩ : ∃ z, Hid (inoE X = z) := ⟨_, Lib.hid rfl⟩
  go_wp2_with fail
  refine (IBytes_any X A n' c (by omega) Hwx.out _ (GX.out _ B3.out)).mono ?_
  rw [HS.out, HE.out]
  rintro e w6 ⟨rfl, hb⟩
  have B6 := Lib.hid (bnext B3.out hb)
  have HI6 := Lib.hid (HI3.out.below hb)
  clear hb hW3 d0 d1 d2 d3 f0 f1 f2 f3 lt1 lt3 c0 c1 c2 c3
  have lt2 := HI6.out.ino.lt
  obtain ⟨d0, d1, d2, d3⟩ := HI6.out.ino
  go_wp2_with fail
  refine (XIBytes_any X A n' c (by omega) Hwx.out _ (GX.out _ B6.out)).mono ?_
  rw [HS.out, HE.out]
  rintro e w7 ⟨rfl, hb⟩
  have B7 := Lib.hid (bnext B6.out hb)
  have HI7 := Lib.hid (HI6.out.below hb)
  clear hb d0 d1 d2 d3 lt2
  go_wp2_with fail
  refine (INew_any k _).mono ?_
  rintro e w8 ⟨rfl, hb⟩
  have B8 := Lib.hid (bnext B7.out hb)
  have HI8 := Lib.hid (HI7.out.below hb)
  clear hb
  go_wp2_with fail
  refine (Same_any ⟨k, 1, 0, []⟩ ⟨k, 1, 0, []⟩ none none 0 0 0 0 _ ⟨rfl, Nat.zero_le _, fun h => absurd h (Nat.lt_irrefl _)⟩ ⟨rfl, Nat.zero_le _, fun h => absurd h (Nat.lt_irrefl _)⟩ (by omega) (by omega)).mono ?_
  rw [(sameI_iff ⟨k, 1, 0, []⟩ ⟨k, 1, 0, []⟩).2 rfl]
  rintro e w9 ⟨rfl, hb⟩
  have B9 := Lib.hid (bnext B8.out hb)
  have HI9 := Lib.hid (HI8.out.below hb)
  clear hb
  have q0 : ∀ y : In (Abv w9), y.u.cell? ⟨p, 0, none⟩ = some (.int .i64 X.k) := fun y => (HI9.out.below y.is).ino.c0
  have q1 : ∀ y : In (Abv w9), y.u.cell? ⟨p, 1, none⟩ = some (.int .i64 X.l) := fun y => (HI9.out.below y.is).ino.c1
  have q2 : ∀ y : In (Abv w9), y.u.cell? ⟨p, 2, none⟩ = some (.int .i64 X.s) := fun y => (HI9.out.below y.is).ino.c2
  have q3 : ∀ y : In (Abv w9), y.u.cell? ⟨p, 3, none⟩ = some (.slice A n' c) := fun y => (HI9.out.below y.is).ino.c3
  have ql : ∀ y : In (Abv w9), p < y.u.heap.size := fun y => (HI9.out.below y.is).ino.lt
  go_wp2_with fail
  refine wp_region_mix (by kernel_rfl) (Cls (Abv w9)) [(0,0),(1,0),(2,0),(3,0),(4,0),(5,0),(6,0),(7,0),(8,0),(9,0),(11,0),(10,1),(12,1),(13,0),(14,0),(15,0),(16,0),(17,0),(18,0)] (by kernel_rfl) (cls (Below.refl _ w9).drew) ?_
  have hdr : Hid (Below w9.heap.size w9 w9.drew) := Lib.hid (Below.refl _ w9).drew
  repeat (refine mix0 rfl (fun K hK => ?_); go_simp; refine hK _ ?_; clear hK K)
  refine mix1 rfl (fun K hK => ?_)
  go_simp
  refine (Check_any X A n' c (by omega) Hwx.out _ (GX.out _ (bnext B9.out hdr.out))).mono ?_
  rw [HE.out]
  rintro e x2 ⟨rfl, hb⟩
  have D2 : Hid (Below w9.heap.size w9 x2) := Lib.hid (bnext hdr.out hb)
  clear hb
  refine ⟨_, rfl, hK _ _ (cls D2.out) ?_⟩
  clear hK K
  refine mix1 rfl (fun K hK => ?_)
  go_simp
  refine (XCheck_any X A n' c (by omega) Hwx.out _ (GX.out _ (bnext B9.out D2.out))).mono ?_
  rw [HE.out]
  rintro e x3 ⟨rfl, hb⟩
  have D3 : Hid (Below w9.heap.size w9 x3) := Lib.hid (bnext D2.out hb)
  clear hb
  refine ⟨_, rfl, hK _ _ (cls D3.out) ?_⟩
  clear hK K
  repeat (refine mix0 rfl (fun K hK => ?_); go_simp; refine hK _ ?_; clear hK K)
  refine mixEnd ?_
  have B10 : Hid (Below w.heap.size w x3) := Lib.hid (bnext B9.out D3.out)
  have HI10 : Hid (InoF x3 p X A n' c) := Lib.hid (HI9.out.below D3.out)
  clear q0 q1 q2 q3 ql
  by_cases hE : E = 0
  case neg =>
    have q1 : (E != 0) = true := by simp [hE]
    clear hE
    go_wp2
    go_ret
    exact ⟨rfl, B10.out⟩
  case pos =>
  have kx : inoB X = true := by
    by_cases hz : inoB X = true
    · exact hz
    · have h := HE.out; rw [inoE, if_neg hz, hE] at h; cases h
  have Hkx := Lib.hid kx
  obtain rfl : inoS X = S := by rw [← HS.out, inoBy, if_pos kx]
  have HSl : Hid ((inoS X).length ≤ 60) := Lib.hid (by
    have := (InoOk.of kx).len
    rw [inoS_length]; omega)
  subst hE
  clear kx
  go_wp2_with fail
  refine (IRead_any (inoS X) _).mono ?_
  rintro e w11 ⟨Y, B, m, d, F, rfl, hG, hm, hR, hb⟩
  obtain ⟨hXY, hF⟩ := hR.back Hkx.out
  subst hXY hF
  have B11 := Lib.hid (bnext B10.out hb)
  have HI11 := Lib.hid (HI10.out.below hb)
  have K11 := Lib.hid hG
  clear hR hG hb
  obtain ⟨q, Hq⟩ : ∃ p, Hid (w11.heap.size = p) := ⟨_, Lib.hid rfl⟩
  obtain ⟨W5, HW5⟩ : ∃ z, Hid (w11.alloc (.cells #[.int .i64 Y.k, .int .i64 Y.l, .int .i64 Y.s, .slice B m d] 24) = z) := ⟨_, Lib.hid rfl⟩
  have hb5 : Below w11.heap.size w11 W5 := by rw [← HW5.out]; exact balloc (Below.refl _ w11) _
  have B12 := Lib.hid (bnext B11.out hb5)
  have I12 := Lib.hid (HI11.out.below hb5)
  have J12 : Hid (InoF W5 q Y B m d) := Lib.hid (by rw [← HW5.out, ← Hq.out]; exact InoF.new w11 Y B m d _)
  have K12 := Lib.hid (K11.out.below hb5)
  clear hb5
  have hW5 := HW5.out
  have hq := Hq.out
  have lti := I12.out.ino.lt
  obtain ⟨c0, c1, c2, c3⟩ := I12.out.ino
  have ltj := J12.out.ino.lt
  obtain ⟨d0, d1, d2, d3⟩ := J12.out.ino
  rw [inoV]
  go_wp2_with fail
  refine (Same_any Y Y B A m d n' c _ K12.out (GX.out _ B12.out) (by omega) (by omega)).mono ?_
  rw [(sameI_iff Y Y).2 rfl]
  rintro e w13 ⟨rfl, hb⟩
  have B13 := Lib.hid (bnext B12.out hb)
  clear hb hW5 hq c0 c1 c2 c3 d0 d1 d2 d3 lti ltj
  have hsl : ((inoS Y).length : Int) ≤ 510 := by have := HSl.out; omega
  go_wp2
  go_ret
  exact ⟨rfl, B13.out⟩
theorem own : ownKnob Try.prog.godebug = none := by kernel_rfl
theorem laidOut : laidOutB Try.prog = true := by kernel_rfl
set_option maxRecDepth 100000 in
theorem lifted (os : Os) (started : os.Started) (H : Type) (enc : TypeId × Value → H) :
    ReturnsInHanded {} Try.checked os 3 .any (Rows.inodeBytesSpec.pre6 enc Try.prog Try.f3 Rows.inodeBytesRow.domain false) (Rows.inodeBytesSpec.post enc Try.prog Try.f3 false true false false) := by
  refine returnsInHanded_of_change (C := Try.checked) own started (by kernel_rfl) Try.func3
    (ChangeSpec.witness6 (enc := enc) (C := Try.checked) false ⟨#[], #[.agg #[.int .i64 0, .int .i64 0, .int .i64 0, .slice none 0 0], .int .i64 0], []⟩ 8 (by kernel_rfl) (by kernel_rfl) (by kernel_rfl) (by kernel_rfl)) ?_
  intro W base args ds gs before hval0 hW hcnd _
  have hval : ∀ (j : Nat) t v, Try.f3.params[j]? = some t → args[j]? = some v → Value.okWide Try.prog W .any base t v := hval0
  have hW' := hW
  obtain ⟨p, q, hA0, hV, rfl, hfz, hnd⟩ := hW
  have hA : DataW.TrodAll enc Try.prog W 0 (fun _ => true) true Try.f3.params.toList args.toList ds p := hA0
  rw [Try.params3] at hA hval
  obtain ⟨v0, vs0, d0, ds0, p0, q0, hargs, rfl, rfl, h0, r0⟩ := trodAll_cons hA
  obtain ⟨v1, vs1, d1, ds1, p1, q1, rfl, rfl, rfl, h1, r1⟩ := trodAll_cons r0
  obtain ⟨rfl, rfl, rfl⟩ := trodAll_nil r1
  obtain rfl : args = #[v0, v1] := by cases args; simp_all
  obtain ⟨a0, x0, n0, c0, rfl, w0⟩ := open_inode (hval 0 24 v0 rfl rfl) h0
  obtain ⟨a1, rfl, rfl, rfl, w1⟩ := open_int Try.underlying3 (hval 1 3 v1 rfl rfl) h1
  clear hA0 hval0
  refine (walk a0 x0 n0 c0 a1 W w0 w1).mono fun e W' ⟨he, bel⟩ => ?_
  subst he
  exact ⟨_, rfl, law_post laidOut (by rw [Try.params3]; decide +kernel) rfl Try.underlying4 rfl hW' (fun _ => rfl) bel⟩
theorem over : Rows.inodeBytesRow.holds Try.pinned (OpenSpec.ofChange Rows.inodeBytesSpec) :=
  OpenClaim.holds_of_wide 3 Try.f3 rfl rfl rfl rfl rfl rfl rfl ⟨rfl, rfl, rfl, rfl, rfl⟩ rfl rfl rfl rfl rfl (by kernel_rfl) Try.func3 (by kernel_rfl)
    (of_decide_eq_true (by kernel_rfl)) (by unfold Func.isWrapper; first | (rw [if_pos (by decide +kernel)]; kernel_rfl) | (rw [if_neg (by decide +kernel)]; exact ⟨rfl, rfl⟩))
    (fun os started H enc _ => lifted os started H enc)
theorem proved : Rows.InodeBytesSaid := over
end Go.Proofs.Ytdlbibhekoobjaa.inodeBytes
