/- P14.2: what is read of any bytes, as the document has it. -/
import Derived.Test.YtdlbibhekoobjaaRows
import Derived.Test.YtdlbibhekoobjaaIx2
import Derived.Test.YtdlbibhekoobjaaIo14
import Derived.Test.YtdlbibhekoobjaaIr2
namespace Go.Proofs.Ytdlbibhekoobjaa.inodeReads
open Go.RowKit Go.ChangeShapes Go.WideShapes Go.ChangeAt
open Go.ChangeMaps (open_string shut_string)

set_option maxRecDepth 100000 in
set_option maxHeartbeats 4000000 in
theorem walk (a0 : List UInt8) (w : World) (_ : a0.length ≤ maxLen) :
    Calls Try.prog 4 #[.string (str a0)] w fun e w' => e = .returned (.bool true) ∧ Below w.heap.size w w' := by
  obtain ⟨s, Hs⟩ : ∃ s, Hid (a0.take 200 = s) := ⟨_, Lib.hid rfl⟩
  have hs : s.length ≤ 200 := by rw [← Hs.out]; simp; omega
  go_enter Try.func4, Try.ntmps4
  go_wp2_with fail
  refine (awk14_any _).mono ?_
  rintro e w1 ⟨rfl, hb⟩
  have B1 := Lib.hid hb
  clear hb
  by_cases hgt : 200 < a0.length
  · have hg : (200 : Int) < (a0.length : Int) := by omega
    have hg2 : 200 ≤ a0.length := by omega
    have hts : a0.take 200 = s := Hs.out
    clear hgt
    go_wp2_with fail
    refine (IRead_any s _).mono ?_
    rintro e w2 ⟨X, A, n, c, E, rfl, hG, hn, hR, hb⟩
    have B2 := Lib.hid (bnext B1.out hb)
    have HR := Lib.hid hR
    have G2 := Lib.hid hG
    clear hR hG hb
    obtain ⟨p, Hp⟩ : ∃ p, Hid (w2.heap.size = p) := ⟨_, Lib.hid rfl⟩
    obtain ⟨W3, HW3⟩ : ∃ z, Hid (w2.alloc (.cells #[.int .i64 X.k, .int .i64 X.l, .int .i64 X.s, .slice A n c] 24) = z) := ⟨_, Lib.hid rfl⟩
    have hb3 : Below w2.heap.size w2 W3 := by rw [← HW3.out]; exact balloc (Below.refl _ w2) _
    have B3 := Lib.hid (bnext B2.out hb3)
    have I3 : Hid (InoF W3 p X A n c) := Lib.hid (by rw [← HW3.out, ← Hp.out]; exact InoF.new w2 X A n c _)
    have G3 := Lib.hid (G2.out.below hb3)
    clear hb3
    have hW3 := HW3.out
    have hp := Hp.out
    rw [inoV]
    go_wp2_with fail
    refine (XIRead_any s (by omega) _).mono ?_
    rintro e w4 ⟨Y, B, m, d, F, rfl, hG, hm, hR, hb⟩
    obtain ⟨hXY, hEF⟩ := HR.out.same hR
    subst hXY hEF
    have B4 := Lib.hid (bnext B3.out hb)
    have I4 := Lib.hid (I3.out.below hb)
    have G4 := Lib.hid (G3.out.below hb)
    have K4 := Lib.hid hG
    clear hR hG hb hW3 hp
    obtain ⟨q, Hq⟩ : ∃ p, Hid (w4.heap.size = p) := ⟨_, Lib.hid rfl⟩
    obtain ⟨W5, HW5⟩ : ∃ z, Hid (w4.alloc (.cells #[.int .i64 X.k, .int .i64 X.l, .int .i64 X.s, .slice B m d] 24) = z) := ⟨_, Lib.hid rfl⟩
    have hb5 : Below w4.heap.size w4 W5 := by rw [← HW5.out]; exact balloc (Below.refl _ w4) _
    have B5 := Lib.hid (bnext B4.out hb5)
    have I5 := Lib.hid (I4.out.below hb5)
    have J5 : Hid (InoF W5 q X B m d) := Lib.hid (by rw [← HW5.out, ← Hq.out]; exact InoF.new w4 X B m d _)
    have G5 := Lib.hid (G4.out.below hb5)
    have K5 := Lib.hid (K4.out.below hb5)
    clear hb5
    have hW5 := HW5.out
    have hq := Hq.out
    have lti := I5.out.ino.lt
    obtain ⟨c0, c1, c2, c3⟩ := I5.out.ino
    have ltj := J5.out.ino.lt
    obtain ⟨d0, d1, d2, d3⟩ := J5.out.ino
    rw [inoV]
    go_wp2_with fail
    refine (Same_any X X A B n c m d _ G5.out K5.out (by omega) (by omega)).mono ?_
    rw [show sameI X X = true from (sameI_iff X X).2 rfl]
    rintro e w6 ⟨rfl, hb⟩
    have B6 := Lib.hid (bnext B5.out hb)
    clear hb hW5 hq c0 c1 c2 c3 d0 d1 d2 d3 lti ltj
    go_wp2
    go_ret
    exact ⟨rfl, B6.out⟩
  · have hg : ¬ (200 : Int) < (a0.length : Int) := by omega
    obtain rfl : a0 = s := by rw [← Hs.out, List.take_of_length_le (by omega)]
    clear hgt
    go_wp2_with fail
    refine (IRead_any a0 _).mono ?_
    rintro e w2 ⟨X, A, n, c, E, rfl, hG, hn, hR, hb⟩
    have B2 := Lib.hid (bnext B1.out hb)
    have HR := Lib.hid hR
    have G2 := Lib.hid hG
    clear hR hG hb
    obtain ⟨p, Hp⟩ : ∃ p, Hid (w2.heap.size = p) := ⟨_, Lib.hid rfl⟩
    obtain ⟨W3, HW3⟩ : ∃ z, Hid (w2.alloc (.cells #[.int .i64 X.k, .int .i64 X.l, .int .i64 X.s, .slice A n c] 24) = z) := ⟨_, Lib.hid rfl⟩
    have hb3 : Below w2.heap.size w2 W3 := by rw [← HW3.out]; exact balloc (Below.refl _ w2) _
    have B3 := Lib.hid (bnext B2.out hb3)
    have I3 : Hid (InoF W3 p X A n c) := Lib.hid (by rw [← HW3.out, ← Hp.out]; exact InoF.new w2 X A n c _)
    have G3 := Lib.hid (G2.out.below hb3)
    clear hb3
    have hW3 := HW3.out
    have hp := Hp.out
    rw [inoV]
    go_wp2_with fail
    refine (XIRead_any a0 (by omega) _).mono ?_
    rintro e w4 ⟨Y, B, m, d, F, rfl, hG, hm, hR, hb⟩
    obtain ⟨hXY, hEF⟩ := HR.out.same hR
    subst hXY hEF
    have B4 := Lib.hid (bnext B3.out hb)
    have I4 := Lib.hid (I3.out.below hb)
    have G4 := Lib.hid (G3.out.below hb)
    have K4 := Lib.hid hG
    clear hR hG hb hW3 hp
    obtain ⟨q, Hq⟩ : ∃ p, Hid (w4.heap.size = p) := ⟨_, Lib.hid rfl⟩
    obtain ⟨W5, HW5⟩ : ∃ z, Hid (w4.alloc (.cells #[.int .i64 X.k, .int .i64 X.l, .int .i64 X.s, .slice B m d] 24) = z) := ⟨_, Lib.hid rfl⟩
    have hb5 : Below w4.heap.size w4 W5 := by rw [← HW5.out]; exact balloc (Below.refl _ w4) _
    have B5 := Lib.hid (bnext B4.out hb5)
    have I5 := Lib.hid (I4.out.below hb5)
    have J5 : Hid (InoF W5 q X B m d) := Lib.hid (by rw [← HW5.out, ← Hq.out]; exact InoF.new w4 X B m d _)
    have G5 := Lib.hid (G4.out.below hb5)
    have K5 := Lib.hid (K4.out.below hb5)
    clear hb5
    have hW5 := HW5.out
    have hq := Hq.out
    have lti := I5.out.ino.lt
    obtain ⟨c0, c1, c2, c3⟩ := I5.out.ino
    have ltj := J5.out.ino.lt
    obtain ⟨d0, d1, d2, d3⟩ := J5.out.ino
    rw [inoV]
    go_wp2_with fail
    refine (Same_any X X A B n c m d _ G5.out K5.out (by omega) (by omega)).mono ?_
    rw [show sameI X X = true from (sameI_iff X X).2 rfl]
    rintro e w6 ⟨rfl, hb⟩
    have B6 := Lib.hid (bnext B5.out hb)
    clear hb hW5 hq c0 c1 c2 c3 d0 d1 d2 d3 lti ltj
    go_wp2
    go_ret
    exact ⟨rfl, B6.out⟩
theorem own : ownKnob Try.prog.godebug = none := by kernel_rfl
theorem laidOut : laidOutB Try.prog = true := by kernel_rfl
set_option maxRecDepth 100000 in
theorem lifted (os : Os) (started : os.Started) (H : Type) (enc : TypeId × Value → H) :
    ReturnsInHanded {} Try.checked os 4 .any (Rows.inodeReadsSpec.pre6 enc Try.prog Try.f4 Rows.inodeReadsRow.domain false) (Rows.inodeReadsSpec.post enc Try.prog Try.f4 false true false false) := by
  refine returnsInHanded_of_change (C := Try.checked) own started (by kernel_rfl) Try.func4
    (ChangeSpec.witness6 (enc := enc) (C := Try.checked) false ⟨#[], #[.string ByteArray.empty], []⟩ 8 (by kernel_rfl) (by kernel_rfl) (by kernel_rfl) (by kernel_rfl)) ?_
  intro W base args ds gs before hval0 hW hcnd _
  have hval : ∀ (j : Nat) t v, Try.f4.params[j]? = some t → args[j]? = some v → Value.okWide Try.prog W .any base t v := hval0
  have hW' := hW
  obtain ⟨p, q, hA0, hV, rfl, hfz, hnd⟩ := hW
  have hA : DataW.TrodAll enc Try.prog W 0 (fun _ => true) true Try.f4.params.toList args.toList ds p := hA0
  rw [Try.params4] at hA hval
  obtain ⟨v0, vs0, d0, ds0, p0, q0, hargs, rfl, rfl, h0, r0⟩ := trodAll_cons hA
  obtain ⟨rfl, rfl, rfl⟩ := trodAll_nil r0
  obtain rfl : args = #[v0] := by cases args; simp_all
  obtain ⟨s0, rfl, rfl, rfl, w0⟩ := open_string Try.underlying9 (hval 0 9 v0 rfl rfl) h0
  obtain ⟨a0, rfl⟩ := str_of s0
  rw [str_size] at w0
  clear hA0 hval0
  refine (walk a0 W w0).mono fun e W' ⟨he, bel⟩ => ?_
  subst he
  exact ⟨_, rfl, law_post laidOut (by rw [Try.params4]; decide +kernel) rfl Try.underlying4 rfl hW' (fun _ => rfl) bel⟩
theorem over : Rows.inodeReadsRow.holds Try.pinned (OpenSpec.ofChange Rows.inodeReadsSpec) :=
  OpenClaim.holds_of_wide 4 Try.f4 rfl rfl rfl rfl rfl rfl rfl ⟨rfl, rfl, rfl, rfl, rfl⟩ rfl rfl rfl rfl rfl (by kernel_rfl) Try.func4 (by kernel_rfl)
    (of_decide_eq_true (by kernel_rfl)) (by unfold Func.isWrapper; first | (rw [if_pos (by decide +kernel)]; kernel_rfl) | (rw [if_neg (by decide +kernel)]; exact ⟨rfl, rfl⟩))
    (fun os started H enc _ => lifted os started H enc)
theorem proved : Rows.InodeReadsSaid := over
end Go.Proofs.Ytdlbibhekoobjaa.inodeReads
