/- Lists are measured and written, and any bytes read, as the document says: EntryBytes. -/
import Derived.Test.YtnoidhfhnaemgaaDoorTied15
import Derived.Test.YtnoidhfhnaemgaaDoorRe15

namespace Go.Proofs.YtnoidhfhnaemgaaDoor.entryBytes
open Go.RowKit Go.ChangeShapes Go.WideShapes Go.ChangeAt
open Go.ChangeMaps (open_string shut_string)

set_option maxRecDepth 100000 in
set_option maxHeartbeats 4000000 in
theorem walk (A : Option Addr) (n c : Nat) (a : List Ent) (s : List UInt8) (w : World) (ha : IsG w 2 encN A n a) (hwa : ∀ e ∈ a, wfN e) (hs : s.length ≤ maxLen) (hm : Mx w) :
    Calls Tryd.prog 5 #[.slice A n c, .string (str s)] w fun e w' => e = .returned (.bool true) ∧ Below w.heap.size w w' := by
  have Ha := Lib.hid ha
  have ha2 : ∀ e ∈ a, e.1.length ≤ 9223372036854775807 := fun e he => by have := (hwa e he).1; unfold maxLen at this; omega
  unfold maxLen at hs
  clear ha hwa
  go_enter Tryd.func5, Tryd.ntmps5
  go_wp2_with fail
  refine (awk15_any w hm).mono ?_
  rintro e w1 ⟨rfl, b1⟩
  have B1 := Lib.hid b1
  clear b1 hm
  obtain ⟨l, Hl⟩ : ∃ l, Hid (fewN a = l) := ⟨_, Lib.hid rfl⟩
  have HLl : Hid (l.length ≤ 30 ∧ ∀ e ∈ l, e.1.length ≤ 1000) := Lib.hid (by rw [← Hl.out]; exact ⟨fewN_length _, fun e he => Nat.le_trans (fewN_len a e he) (by decide)⟩)
  go_wp2_with fail
  refine (few15_any A n c a w1 (Ha.out.below B1.out) ha2).mono ?_
  rw [Hl.out]
  rintro e w2 ⟨A2, n2, c2, rfl, r2, _, b2⟩
  have T2 : Hid (IsG w2 2 encN A2 n2 l ∧ Below w.heap.size w w2) := Lib.hid ⟨(r2.is encN_ok).1, bnext B1.out b2⟩
  clear r2 b2
  have hn2 : n2 ≤ 1000 := by rw [← T2.out.1.length]; have := HLl.out.1; omega
  go_wp2_with fail
  refine (short15_any s 400 (by decide) hs w2).mono ?_
  rintro e w3 ⟨rfl, rfl⟩
  obtain ⟨t, Ht⟩ : ∃ t, Hid (s.take 400 = t) := ⟨_, Lib.hid rfl⟩
  have htl : t.length ≤ 400 := by rw [← Ht.out, List.length_take]; omega
  rw [Ht.out]
  obtain ⟨V, HV⟩ : ∃ s, Hid (bytesV l = s) := ⟨_, Lib.hid rfl⟩
  obtain ⟨E, HE⟩ : ∃ s, Hid (bytesW l = s) := ⟨_, Lib.hid rfl⟩
  go_wp2_with fail
  refine (Bytes_any A2 n2 c2 l w2 T2.out.1 (by omega)).mono ?_
  rw [HV.out, HE.out]
  rintro e w4 ⟨rfl, b4⟩
  have T4 : Hid (IsG w4 2 encN A2 n2 l ∧ Below w.heap.size w w4) := Lib.hid ⟨T2.out.1.below b4, bnext T2.out.2 b4⟩
  clear b4
  go_wp2_with fail
  refine (XBytes_any A2 n2 c2 l w4 T4.out.1 (by omega)).mono ?_
  rw [HV.out, HE.out]
  rintro e w5 ⟨rfl, b5⟩
  have T5 : Hid (IsG w5 2 encN A2 n2 l ∧ Below w.heap.size w w5) := Lib.hid ⟨T4.out.1.below b5, bnext T4.out.2 b5⟩
  clear b5
  go_wp2_with fail
  refine (ReadE_any t (by omega) w5).mono ?_
  rintro e w6 ⟨X, A6, n6, c6, E6, rfl, g6, hn6, s6, b6⟩
  have T6 : Hid (IsG w6 2 encN A2 n2 l ∧ IsG w6 2 encN A6 n6 X ∧ ReadsN t X E6 ∧ Below w.heap.size w w6) := Lib.hid ⟨T5.out.1.below b6, g6, s6, bnext T5.out.2 b6⟩
  clear b6 g6 s6
  go_wp2_with fail
  refine (XReadE_any t (by omega) w6).mono ?_
  rintro e w7 ⟨Y, A7, n7, c7, E7, rfl, g7, hn7, s7, b7⟩
  obtain ⟨e1, e2⟩ := s7.same T6.out.2.2.1
  subst e1 e2
  have T7 : Hid (IsG w7 2 encN A2 n2 l ∧ IsG w7 2 encN A6 n6 Y ∧ IsG w7 2 encN A7 n7 Y ∧ Below w.heap.size w w7) := Lib.hid ⟨T6.out.1.below b7, T6.out.2.1.below b7, g7, bnext T6.out.2.2.2 b7⟩
  clear b7 g7 s7
  go_wp2_with fail
  refine (SameE_any A6 A7 n6 c6 n7 c7 Y Y w7 T7.out.2.1 T7.out.2.2.1).mono ?_
  rw [decide_eq_true rfl]
  rintro e w8 ⟨rfl, b8⟩
  have T8 : Hid (IsG w8 2 encN A2 n2 l ∧ Below w.heap.size w w8) := Lib.hid ⟨T7.out.1.below b8, bnext T7.out.2.2.2 b8⟩
  clear b8
  obtain ⟨Z, HZ⟩ : ∃ s, Hid (sizeN l = s) := ⟨_, Lib.hid rfl⟩
  have hvv : (V == V) = true := by simp
  have hee : (E == E) = true := by simp
  have hee7 : (E7 == E7) = true := by simp
  go_wp2_with fail
  refine (Size_any l A2 n2 c2 w8 T8.out.1 HLl.out.2 hn2).mono ?_
  rw [HZ.out]
  rintro e w9 ⟨rfl, b9⟩
  have T9 : Hid (IsG w9 2 encN A2 n2 l ∧ Below w.heap.size w w9) := Lib.hid ⟨T8.out.1.below b9, bnext T8.out.2 b9⟩
  clear b9
  go_wp2_with fail
  refine (XSize_any l A2 n2 c2 w9 T9.out.1 HLl.out.2 hn2).mono ?_
  rw [HZ.out]
  rintro e w10 ⟨rfl, b10⟩
  have T10 : Hid (IsG w10 2 encN A2 n2 l ∧ Below w.heap.size w w10) := Lib.hid ⟨T9.out.1.below b10, bnext T9.out.2 b10⟩
  clear b10
  have hzz : ((Z : Int) == (Z : Int)) = true := by simp
  cases hl : rightN l with
  | false =>
    obtain rfl : E = 1 := by rw [← HE.out, bytesW, hl]; rfl
    go_wp2_with fail
    go_ret
    exact ⟨ret_bool (by first | rfl | simp), T10.out.2⟩
  | true =>
    obtain rfl : E = 0 := by rw [← HE.out, bytesW, hl]; rfl
    have hV : V = bytesN l := by rw [← HV.out, bytesV, hl]; rfl
    have hVZ : V.length = Z := by rw [hV, bytesN_len, HZ.out]
    have hVl : V.length ≤ 30000 := by rw [hV, bytesN_len]; have := right_size hl; have := HLl.out.1; omega
    have HVN := Lib.hid hV
    have HVZ := Lib.hid hVZ
    clear hV hVZ
    go_wp2_with fail
    refine (ReadE_any V hVl w10).mono ?_
    rintro e w11 ⟨X, A8, n8, c8, E8, rfl, g8, hn8, s8, b11⟩
    rw [HVN.out] at s8
    obtain ⟨e1, e2⟩ := s8.back hl
    subst e1 e2
    have T11 : Hid (IsG w11 2 encN A2 n2 X ∧ IsG w11 2 encN A8 n8 X ∧ Below w.heap.size w w11) := Lib.hid ⟨T10.out.1.below b11, g8, bnext T10.out.2 b11⟩
    clear b11 g8 s8
    go_wp2_with fail
    refine (SameE_any A8 A2 n8 c8 n2 c2 X X w11 T11.out.2.1 T11.out.1).mono ?_
    rw [decide_eq_true rfl]
    rintro e w12 ⟨rfl, b12⟩
    have T12 : Hid (IsG w12 2 encN A2 n2 X ∧ Below w.heap.size w w12) := Lib.hid ⟨T11.out.1.below b12, bnext T11.out.2.2 b12⟩
    clear b12
    go_wp2_with fail
    refine (Size_any X A2 n2 c2 w12 T12.out.1 HLl.out.2 hn2).mono ?_
    rw [HZ.out]
    rintro e w13 ⟨rfl, b13⟩
    have B13 := Lib.hid (bnext T12.out.2 b13)
    clear b13
    have hvz : ((V.length : Int) == (Z : Int)) = true := by simp [HVZ.out]
    go_wp2_with fail
    go_ret
    exact ⟨ret_bool (by first | rfl | simp [HVZ.out]), B13.out⟩
set_option maxRecDepth 100000 in
theorem lifted (os : Os) (started : os.Started) (H : Type) (enc : TypeId × Value → H) :
    ReturnsInHanded {} Tryd.checked os 5 .any (fun w args => (Rows.entryBytesSpec.pre enc Tryd.prog Tryd.f5 [] false w args ∧ laidMetH Tryd.prog laidT w) ∧ sizedMet enc Tryd.prog Tryd.f5 (OpenSpec.ofChange Rows.entryBytesSpec) false w args)
      (Rows.entryBytesSpec.post enc Tryd.prog Tryd.f5 false true false false) := by
  refine lift15 (C := Tryd.checked) (X := fun w _ => laidMetH Tryd.prog laidT w) (fun _ _ _ hh h => h.of_heap hh) own started (by kernel_rfl) Tryd.func5
    (ChangeSpec.witness_shaped (enc := enc) (C := Tryd.checked) (os := os) (X := fun w _ => laidMetH Tryd.prog laidT w) false (World.laidAll Tryd.prog os laidT) #[.slice none 0 0, .string ByteArray.empty] 8 (World.laidAll_os _ _ _) (World.shaped_of_ZipB (by kernel_rfl) (by kernel_rfl)) (by kernel_rfl) (by kernel_rfl) (by kernel_rfl) (door_met os _)) ?_
  intro W base args ds gs before hval0 hW _ _ _ hsh _
  have hval : ∀ (j : Nat) t v, Tryd.f5.params[j]? = some t → args[j]? = some v → Value.okWide Tryd.prog W .any base t v := hval0
  have hW' := hW
  obtain ⟨p, q, hA0, hV, rfl, hfz, hnd⟩ := hW
  have hA : DataW.TrodAll enc Tryd.prog W 0 (fun _ => true) true Tryd.f5.params.toList args.toList ds p := hA0
  rw [Tryd.params5] at hA hval
  obtain ⟨v0, vs0, d0, ds0, p0, q0, hargs, rfl, rfl, h0, r0⟩ := trodAll_cons hA
  obtain ⟨v1, vs1, d1, ds1, p1, q1, rfl, rfl, rfl, h1, r1⟩ := trodAll_cons r0
  obtain ⟨rfl, rfl, rfl⟩ := trodAll_nil r1
  obtain rfl : args = #[v0, v1] := by cases args; simp_all
  obtain ⟨x0, len0, cap0, a0, rfl, w0, y0⟩ := opens_ents (hval 0 32 v0 rfl rfl) h0
  obtain ⟨s1, rfl, rfl, rfl, w1⟩ := open_string Tryd.underlying9 (hval 1 9 v1 rfl rfl) h1
  obtain ⟨a1, rfl⟩ := str_of s1
  rw [str_size] at w1
  clear hA0 hval0
  refine (walk x0 len0 cap0 a0 a1 W w0 y0 w1 (mx_of_shape hsh)).mono fun e W' ⟨he, bel⟩ => ?_
  subst he
  exact ⟨_, rfl, law_post laidOut (by rw [Tryd.params5]; decide +kernel) rfl Tryd.underlying4 rfl hW' (fun _ => rfl) bel⟩
theorem over : Rows.entryBytesRow.holds Tryd.pinned (OpenSpec.ofChange Rows.entryBytesSpec) :=
  OpenClaim.holds_of_wide 5 Tryd.f5 rfl rfl rfl rfl rfl rfl rfl ⟨rfl, rfl, rfl, rfl, rfl⟩ rfl rfl rfl rfl rfl (by kernel_rfl) Tryd.func5 (by kernel_rfl)
    (of_decide_eq_true (by kernel_rfl)) (by unfold Func.isWrapper; first | (rw [if_pos (by decide +kernel)]; kernel_rfl) | (rw [if_neg (by decide +kernel)]; exact ⟨rfl, rfl⟩))
    (fun os started H enc _ => lifted os started H enc)
theorem proved : Rows.EntryBytesCardSaid :=
  Claim7.holds_tied_plain_at .later [] [.data, .pinned] true Rows.entryBytesCard.stood.harness false over (fun _ h => by cases h) (by kernel_rfl) (fun _ h => by cases h) entryBytes_row_tie rfl ⟨rfl, rfl⟩ (by kernel_rfl) rfl
    (fun f fn hf hfn => by
      obtain rfl : f = 5 := Option.some.inj ((show Tryd.prog.funcNamed "lockgate/lockgatelaw15.EntryBytes" = some 5 by kernel_rfl).symm.trans hf) |>.symm
      obtain rfl : fn = Tryd.f5 := (Option.some.inj (Tryd.func5.symm.trans hfn)).symm
      exact ⟨by kernel_rfl, fun j t ht => by
        rw [Tryd.params5] at ht
        have hm : t ∈ [32, 9] := by simpa using Array.mem_of_getElem? ht
        have hall : ([32, 9].all fun u => !Tryd.prog.wantsStandIn u) = true := by kernel_rfl
        exact (show Tryd.prog.wantsStandIn t = false by simpa using List.all_eq_true.1 hall t hm)⟩)
    (by kernel_rfl)
end Go.Proofs.YtnoidhfhnaemgaaDoor.entryBytes
