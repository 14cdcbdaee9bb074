/- No two inodes have the same bytes: InodeOne. -/
import Derived.Test.YtdlbibhekoobjaaRows
import Derived.Test.YtdlbibhekoobjaaIo14
import Derived.Test.YtdlbibhekoobjaaIb14
namespace Go.Proofs.Ytdlbibhekoobjaa.inodeOne
open Go.RowKit Go.ChangeShapes Go.WideShapes Go.ChangeAt
open Go.ChangeMaps (open_string shut_string)

set_option maxRecDepth 100000 in
set_option maxHeartbeats 4000000 in
theorem walk (x : Ino) (A : Option Addr) (n c : Nat) (y : Ino) (B : Option Addr) (m d : Nat) (w : World) (hx : IsG w 1 encI A n x.d ∧ n ≤ c ∧ c ≤ maxLen ∧ (Lit.int .i64 x.s).wf = true) (hy : IsG w 1 encI B m y.d ∧ m ≤ d ∧ d ≤ maxLen ∧ (Lit.int .i64 y.s).wf = true) :
    Calls Try.prog 9 #[inoV x A n c, inoV y B m d] w fun e w' => e = .returned (.bool true) ∧ Below w.heap.size w w' := by
  obtain ⟨hx1, hx2, hx3, hx4⟩ := hx
  obtain ⟨hy1, hy2, hy3, hy4⟩ := hy
  have Hx1 := Lib.hid hx1
  have Hy1 := Lib.hid hy1
  have Hwx : Hid ((Lit.int .i64 (smallI x).s).wf = true) := Lib.hid hx4
  have Hwy : Hid ((Lit.int .i64 (smallI y).s).wf = true) := Lib.hid hy4
  obtain ⟨p, Hp⟩ : ∃ p, Hid (w.heap.size = p) := ⟨_, Lib.hid rfl⟩
  obtain ⟨W, HW⟩ : ∃ z, Hid ((w.alloc (.cells #[.int .i64 x.k, .int .i64 x.l, .int .i64 x.s, .slice A n c] 24)).alloc (.cells #[.int .i64 y.k, .int .i64 y.l, .int .i64 y.s, .slice B m d] 24) = z) := ⟨_, Lib.hid rfl⟩
  have BW : Hid (Below p w W) := Lib.hid (by rw [← HW.out, ← Hp.out]; exact balloc (balloc (Below.refl _ w) _) _)
  have HI : Hid (InoF W p x A n c) := Lib.hid (by rw [← HW.out, ← Hp.out]; exact (InoF.new w x A n c _).below (balloc (Below.refl _ _) _))
  have HJ : Hid (InoF W (p + 1) y B m d) := Lib.hid (by
    have h := InoF.new (w.alloc (.cells #[.int .i64 x.k, .int .i64 x.l, .int .i64 x.s, .slice A n c] 24)) y B m d 24
    rw [show (w.alloc (.cells #[.int .i64 x.k, .int .i64 x.l, .int .i64 x.s, .slice A n c] 24)).heap.size = p + 1 by rw [← Hp.out]; simp] at h
    rw [← HW.out]; exact h)
  have hW := HW.out
  have hp := Hp.out
  rw [inoV, inoV]
  clear hx1 hy1 hx4 hy4
  go_enter Try.func9, Try.ntmps9
  go_wp2_with fail
  refine (awk14_any _).mono ?_
  rintro e w1 ⟨rfl, hb⟩
  have B1 : Hid (Below p w w1) := Lib.hid (BW.out.trans (hb.mono (by have := HI.out.ino.lt; omega)))
  have B01 := Lib.hid hb
  have HI1 := Lib.hid (HI.out.below hb)
  have HJ1 := Lib.hid (HJ.out.below hb)
  clear hb hW hp
  have lt1 := HI1.out.ino.lt
  obtain ⟨c0, c1, c2, c3⟩ := HI1.out.ino
  go_wp2_with fail
  refine (smallI_any x A n c hx2 hx3 _ (Hx1.out.below (by rw [← Hp.out] at B1; exact B1.out))).mono ?_
  rintro e w2 ⟨n', rfl, hn', hg, hb⟩
  obtain ⟨X, HX⟩ : ∃ X, Hid (smallI x = X) := ⟨_, Lib.hid rfl⟩
  rw [HX.out] at hg Hwx ⊢
  have GX : Hid (∀ u, Below w.heap.size w u → IsG u 1 encI A n' X.d) := Lib.hid (fun u hu => hg u (Hx1.out.below hu))
  have B2 : Hid (Below p w w2) := Lib.hid (B1.out.trans (hb.mono (by omega)))
  have HI2 := Lib.hid (HI1.out.below hb)
  have HJ2 := Lib.hid (HJ1.out.below hb)
  clear hb hg c0 c1 c2 c3 lt1
  obtain ⟨W3, HW3⟩ : ∃ z, Hid ((((w2.setCell ⟨p, 0, none⟩ (.int .i64 X.k)).setCell ⟨p, 1, none⟩ (.int .i64 X.l)).setCell ⟨p, 2, none⟩ (.int .i64 X.s)).setCell ⟨p, 3, none⟩ (.slice A n' c) = z) := ⟨_, Lib.hid rfl⟩
  have HI3 : Hid (InoF W3 p X A n' c) := Lib.hid (by rw [← HW3.out]; exact HI2.out.put X A n' c)
  have M3 : Hid (Mod (· = p) w2 W3) := Lib.hid (by rw [← HW3.out]; exact ((((Mod.refl _ w2).set1 _).set1 _).set1 _).set1 _)
  have HJ3 : Hid (InoF W3 (p + 1) y B m d) := Lib.hid (HJ2.out.later M3.out (by omega))
  have B3 : Hid (Below p w W3) := Lib.hid (M3.out.below B2.out (by have := HI2.out.ino.lt; omega) (by rintro i rfl; exact Nat.le_refl _))
  have hW3 := HW3.out
  have lt1 := HI2.out.ino.lt
  obtain ⟨c0, c1, c2, c3⟩ := HI2.out.ino
  have f0 := HI2.out.free 0 (by omega)
  have f1 := HI2.out.free 1 (by omega)
  have f2 := HI2.out.free 2 (by omega)
  have f3 := HI2.out.free 3 (by omega)
  have lt2 := HJ3.out.ino.lt
  obtain ⟨d0, d1, d2, d3⟩ := HJ3.out.ino
  have By3 : Hid (Below w.heap.size w W3) := Lib.hid (by rw [Hp.out]; exact B3.out)
  go_wp2_with fail
  refine (smallI_any y B m d hy2 hy3 _ (Hy1.out.below By3.out)).mono ?_
  rintro e w4 ⟨m', rfl, hm', hg, hb⟩
  obtain ⟨Y, HY⟩ : ∃ Y, Hid (smallI y = Y) := ⟨_, Lib.hid rfl⟩
  rw [HY.out] at hg Hwy ⊢
  have GY : Hid (∀ u, Below w.heap.size w u → IsG u 1 encI B m' Y.d) := Lib.hid (fun u hu => hg u (Hy1.out.below hu))
  have B4 : Hid (Below p w w4) := Lib.hid (B3.out.trans (hb.mono (by omega)))
  have HI4 := Lib.hid (HI3.out.below hb)
  have HJ4 := Lib.hid (HJ3.out.below hb)
  clear hb hg c0 c1 c2 c3 d0 d1 d2 d3 lt1 lt2 hW3 f0 f1 f2 f3
  obtain ⟨W5, HW5⟩ : ∃ z, Hid ((((w4.setCell ⟨p + 1, 0, none⟩ (.int .i64 Y.k)).setCell ⟨p + 1, 1, none⟩ (.int .i64 Y.l)).setCell ⟨p + 1, 2, none⟩ (.int .i64 Y.s)).setCell ⟨p + 1, 3, none⟩ (.slice B m' d) = z) := ⟨_, Lib.hid rfl⟩
  have HJ5 : Hid (InoF W5 (p + 1) Y B m' d) := Lib.hid (by rw [← HW5.out]; exact HJ4.out.put Y B m' d)
  have M5 : Hid (Mod (· = p + 1) w4 W5) := Lib.hid (by rw [← HW5.out]; exact ((((Mod.refl _ w4).set1 _).set1 _).set1 _).set1 _)
  have HI5 : Hid (InoF W5 p X A n' c) := Lib.hid (HI4.out.later M5.out (by omega))
  have B5 : Hid (Below w.heap.size w W5) := Lib.hid (by rw [Hp.out]; exact M5.out.below B4.out (by have := HI4.out.ino.lt; omega) (by rintro i rfl; omega))
  have hW5 := HW5.out
  have lt2 := HJ4.out.ino.lt
  obtain ⟨d0, d1, d2, d3⟩ := HJ4.out.ino
  have f0 := HJ4.out.free 0 (by omega)
  have f1 := HJ4.out.free 1 (by omega)
  have f2 := HJ4.out.free 2 (by omega)
  have f3 := HJ4.out.free 3 (by omega)
  have lt1 := HI5.out.ino.lt
  obtain ⟨c0, c1, c2, c3⟩ := HI5.out.ino
  obtain ⟨S, HS⟩ : ∃ z, Hid (inoBy X = z) := ⟨_, Lib.hid rfl⟩
  obtain ⟨T, HT⟩ : ∃ z, Hid (inoBy Y = z) := ⟨_, Lib.hid rfl⟩
  obtain ⟨E, HE⟩ : ∃ z, Hid (inoE X = z) := ⟨_, Lib.hid rfl⟩
  obtain ⟨F, HF⟩ : ∃ z, Hid (inoE Y = z) := ⟨_, Lib.hid rfl⟩
  go_wp2_with fail
  refine (IBytes_any X A n' c (by omega) Hwx.out _ (GX.out _ B5.out)).mono ?_
  rw [HS.out, HE.out]
  rintro e w6 ⟨rfl, hb⟩
  have B6 := Lib.hid (bnext B5.out hb)
  have HI6 := Lib.hid (HI5.out.below hb)
  have HJ6 := Lib.hid (HJ5.out.below hb)
  clear hb hW5 d0 d1 d2 d3 f0 f1 f2 f3 lt1 lt2 c0 c1 c2 c3
  have lt2 := HJ6.out.ino.lt
  obtain ⟨d0, d1, d2, d3⟩ := HJ6.out.ino
  go_wp2_with fail
  refine (IBytes_any Y B m' d (by omega) Hwy.out _ (GY.out _ B6.out)).mono ?_
  rw [HT.out, HF.out]
  rintro e w7 ⟨rfl, hb⟩
  have B7 := Lib.hid (bnext B6.out hb)
  have HI7 := Lib.hid (HI6.out.below hb)
  have HJ7 := Lib.hid (HJ6.out.below hb)
  clear hb d0 d1 d2 d3 lt2
  have hno : ∀ z : Ino, inoE z ≠ 0 → inoBy z = [] := fun z h => by
    by_cases hz : inoB z = true
    · exact (h (if_pos hz)).elim
    · exact if_neg hz
  have hyes : ∀ z : Ino, inoE z = 0 → inoB z = true := fun z h => by
    by_cases hz : inoB z = true
    · exact hz
    · rw [inoE, if_neg hz] at h; cases h
  by_cases hE : E = 0
  case neg =>
    have hS : S = [] := by rw [← HS.out]; exact hno X (by rw [HE.out]; exact hE)
    have q1 : (E == 0) = false := by simp [hE]
    have q2 : (E != 0) = true := by simp [hE]
    by_cases hF : F = 0
    · subst hS hF
      clear hE hno hyes
      go_wp2
      go_ret
      exact ⟨rfl, B7.out⟩
    · have hT : T = [] := by rw [← HT.out]; exact hno Y (by rw [HF.out]; exact hF)
      have q3 : (F == 0) = false := by simp [hF]
      have q4 : (F != 0) = true := by simp [hF]
      subst hS hT
      clear hE hF hno hyes
      go_wp2
      go_ret
      exact ⟨rfl, B7.out⟩
  case pos =>
  by_cases hF : F = 0
  case neg =>
    have hT : T = [] := by rw [← HT.out]; exact hno Y (by rw [HF.out]; exact hF)
    have q3 : (F == 0) = false := by simp [hF]
    have q4 : (F != 0) = true := by simp [hF]
    subst hT hE
    clear hF hno hyes
    go_wp2
    go_ret
    exact ⟨rfl, B7.out⟩
  case pos =>
  have kx := hyes X (by rw [HE.out]; exact hE)
  have ky := hyes Y (by rw [HF.out]; exact hF)
  have hSx : S = inoS X := by rw [← HS.out]; exact if_pos kx
  have hTy : T = inoS Y := by rw [← HT.out]; exact if_pos ky
  have Hst : Hid ((S == T) = sameI X Y) := Lib.hid (by
    rw [Bool.eq_iff_iff, beq_iff_eq, sameI_iff, hSx, hTy]
    exact ⟨fun e => inoS_inj (InoOk.of kx) (InoOk.of ky) e, fun e => by rw [e]⟩)
  have HSl : Hid (S.length = 12 + 4 * n') := Lib.hid (by rw [hSx, inoS_length, (GX.out w (Below.refl _ _)).length])
  clear hno hyes kx ky hSx hTy
  subst hE hF
  have lt1 := HI7.out.ino.lt
  obtain ⟨c0, c1, c2, c3⟩ := HI7.out.ino
  have lt2 := HJ7.out.ino.lt
  obtain ⟨d0, d1, d2, d3⟩ := HJ7.out.ino
  go_wp2_with fail
  refine (Same_any X Y A B n' c m' d _ (GX.out _ B7.out) (GY.out _ B7.out) (by omega) (by omega)).mono ?_
  rintro e w8 ⟨rfl, hb⟩
  have B8 := Lib.hid (bnext B7.out hb)
  have HI8 := Lib.hid (HI7.out.below hb)
  clear hb d0 d1 d2 d3 lt1 lt2 c0 c1 c2 c3
  have lt1 := HI8.out.ino.lt
  have c3 := HI8.out.ino.c3
  obtain ⟨R, HR⟩ : ∃ z, Hid (sameI X Y = z) := ⟨_, Lib.hid rfl⟩
  have hst : (S == T) = R := by rw [Hst.out, HR.out]
  rw [HR.out]
  have w1' : IntKind.i64.wrap (4 * (n' : Int)) = 4 * (n' : Int) := IntWalk.i64_in _ (by omega)
  have w2' : IntKind.i64.wrap (12 + 4 * (n' : Int)) = 12 + 4 * (n' : Int) := IntWalk.i64_in _ (by omega)
  have hsl : ((S.length : Int) == 12 + 4 * (n' : Int)) = true := by have := HSl.out; simp; omega
  go_wp2
  go_ret
  exact ⟨rfl, B8.out⟩
theorem own : ownKnob Try.prog.godebug = none := by kernel_rfl
theorem laidOut : laidOutB Try.prog = true := by kernel_rfl
set_option maxRecDepth 100000 in
theorem lifted (os : Os) (started : os.Started) (H : Type) (enc : TypeId × Value → H) :
    ReturnsInHanded {} Try.checked os 9 .any (Rows.inodeOneSpec.pre6 enc Try.prog Try.f9 Rows.inodeOneRow.domain false) (Rows.inodeOneSpec.post enc Try.prog Try.f9 false true false false) := by
  refine returnsInHanded_of_change (C := Try.checked) own started (by kernel_rfl) Try.func9
    (ChangeSpec.witness6 (enc := enc) (C := Try.checked) false ⟨#[], #[.agg #[.int .i64 0, .int .i64 0, .int .i64 0, .slice none 0 0], .agg #[.int .i64 0, .int .i64 0, .int .i64 0, .slice none 0 0]], []⟩ 8 (by kernel_rfl) (by kernel_rfl) (by kernel_rfl) (by kernel_rfl)) ?_
  intro W base args ds gs before hval0 hW hcnd _
  have hval : ∀ (j : Nat) t v, Try.f9.params[j]? = some t → args[j]? = some v → Value.okWide Try.prog W .any base t v := hval0
  have hW' := hW
  obtain ⟨p, q, hA0, hV, rfl, hfz, hnd⟩ := hW
  have hA : DataW.TrodAll enc Try.prog W 0 (fun _ => true) true Try.f9.params.toList args.toList ds p := hA0
  rw [Try.params9] at hA hval
  obtain ⟨v0, vs0, d0, ds0, p0, q0, hargs, rfl, rfl, h0, r0⟩ := trodAll_cons hA
  obtain ⟨v1, vs1, d1, ds1, p1, q1, rfl, rfl, rfl, h1, r1⟩ := trodAll_cons r0
  obtain ⟨rfl, rfl, rfl⟩ := trodAll_nil r1
  obtain rfl : args = #[v0, v1] := by cases args; simp_all
  obtain ⟨a0, x0, n0, c0, rfl, w0⟩ := open_inode (hval 0 24 v0 rfl rfl) h0
  obtain ⟨a1, x1, n1, c1, rfl, w1⟩ := open_inode (hval 1 24 v1 rfl rfl) h1
  clear hA0 hval0
  refine (walk a0 x0 n0 c0 a1 x1 n1 c1 W w0 w1).mono fun e W' ⟨he, bel⟩ => ?_
  subst he
  exact ⟨_, rfl, law_post laidOut (by rw [Try.params9]; decide +kernel) rfl Try.underlying4 rfl hW' (fun _ => rfl) bel⟩
theorem over : Rows.inodeOneRow.holds Try.pinned (OpenSpec.ofChange Rows.inodeOneSpec) :=
  OpenClaim.holds_of_wide 9 Try.f9 rfl rfl rfl rfl rfl rfl rfl ⟨rfl, rfl, rfl, rfl, rfl⟩ rfl rfl rfl rfl rfl (by kernel_rfl) Try.func9 (by kernel_rfl)
    (of_decide_eq_true (by kernel_rfl)) (by unfold Func.isWrapper; first | (rw [if_pos (by decide +kernel)]; kernel_rfl) | (rw [if_neg (by decide +kernel)]; exact ⟨rfl, rfl⟩))
    (fun os started H enc _ => lifted os started H enc)
theorem proved : Rows.InodeOneSaid := over
end Go.Proofs.Ytdlbibhekoobjaa.inodeOne
