/- No two folder's lists have the same bytes: EntryOne. -/
import Derived.Test.YtnoidhfhnaemgaaDoorTied15
import Derived.Test.YtnoidhfhnaemgaaDoorOe15

namespace Go.Proofs.YtnoidhfhnaemgaaDoor.entryOne
open Go.RowKit Go.ChangeShapes Go.WideShapes Go.ChangeAt
open Go.ChangeMaps (open_string shut_string)

set_option maxRecDepth 100000 in
set_option maxHeartbeats 4000000 in
theorem walk (A : Option Addr) (n c : Nat) (a : List Ent) (B : Option Addr) (m d : Nat) (b : List Ent) (w : World) (ha : IsG w 2 encN A n a) (hwa : ∀ e ∈ a, wfN e) (hb : IsG w 2 encN B m b) (hwb : ∀ e ∈ b, wfN e) (hm : Mx w) :
    Calls Tryd.prog 9 #[.slice A n c, .slice B m d] w fun e w' => e = .returned (.bool true) ∧ Below w.heap.size w w' := by
  have Ha := Lib.hid ha
  have Hb := Lib.hid hb
  have ha2 : ∀ e ∈ a, e.1.length ≤ 9223372036854775807 := fun e he => by have := (hwa e he).1; unfold maxLen at this; omega
  have hb2 : ∀ e ∈ b, e.1.length ≤ 9223372036854775807 := fun e he => by have := (hwb e he).1; unfold maxLen at this; omega
  clear ha hb hwa hwb
  go_enter Tryd.func9, Tryd.ntmps9
  go_wp2_with fail
  refine (awk15_any w hm).mono ?_
  rintro e w1 ⟨rfl, b1⟩
  have B1 := Lib.hid b1
  clear b1 hm
  obtain ⟨l, Hl⟩ : ∃ l, Hid (fewN a = l) := ⟨_, Lib.hid rfl⟩
  obtain ⟨k, Hk⟩ : ∃ l, Hid (fewN b = l) := ⟨_, Lib.hid rfl⟩
  have HLl : Hid (l.length ≤ 30 ∧ k.length ≤ 30) := Lib.hid (by rw [← Hl.out, ← Hk.out]; exact ⟨fewN_length _, fewN_length _⟩)
  go_wp2_with fail
  refine (few15_any A n c a w1 (Ha.out.below B1.out) ha2).mono ?_
  rw [Hl.out]
  rintro e w2 ⟨A2, n2, c2, rfl, r2, _, b2⟩
  have T2 : Hid (IsG w2 2 encN A2 n2 l ∧ Below w.heap.size w w2) := Lib.hid ⟨(r2.is encN_ok).1, bnext B1.out b2⟩
  clear r2 b2
  go_wp2_with fail
  refine (few15_any B m d b w2 (Hb.out.below T2.out.2) hb2).mono ?_
  rw [Hk.out]
  rintro e w3 ⟨A3, n3, c3, rfl, r3, _, b3⟩
  have T3 : Hid (IsG w3 2 encN A2 n2 l ∧ IsG w3 2 encN A3 n3 k ∧ Below w.heap.size w w3) := Lib.hid ⟨T2.out.1.below b3, (r3.is encN_ok).1, bnext T2.out.2 b3⟩
  clear r3 b3
  have hn2 : n2 ≤ 40000 := by rw [← T3.out.1.length]; have := HLl.out.1; omega
  have hn3 : n3 ≤ 40000 := by rw [← T3.out.2.1.length]; have := HLl.out.2; omega
  obtain ⟨s, Hs⟩ : ∃ s, Hid (bytesV l = s) := ⟨_, Lib.hid rfl⟩
  obtain ⟨t, Ht⟩ : ∃ s, Hid (bytesV k = s) := ⟨_, Lib.hid rfl⟩
  go_wp2_with fail
  refine (Bytes_any A2 n2 c2 l w3 T3.out.1 hn2).mono ?_
  rw [Hs.out]
  rintro e w4 ⟨rfl, b4⟩
  have T4 : Hid (IsG w4 2 encN A2 n2 l ∧ IsG w4 2 encN A3 n3 k ∧ Below w.heap.size w w4) := Lib.hid ⟨T3.out.1.below b4, T3.out.2.1.below b4, bnext T3.out.2.2 b4⟩
  clear b4
  go_wp2_with fail
  refine (Bytes_any A3 n3 c3 k w4 T4.out.2.1 hn3).mono ?_
  rw [Ht.out]
  rintro e w5 ⟨rfl, b5⟩
  have T5 : Hid (IsG w5 2 encN A2 n2 l ∧ IsG w5 2 encN A3 n3 k ∧ Below w.heap.size w w5) := Lib.hid ⟨T4.out.1.below b5, T4.out.2.1.below b5, bnext T4.out.2.2 b5⟩
  clear b5
  cases hl : rightN l with
  | false =>
    have e1 : bytesW l = 1 := by rw [bytesW, hl]; rfl
    have e2 : s = [] := by rw [← Hs.out, bytesV, hl]; rfl
    rw [e1]
    subst e2
    clear e1
    cases hk : rightN k with
    | false =>
      have e3 : bytesW k = 1 := by rw [bytesW, hk]; rfl
      have e4 : t = [] := by rw [← Ht.out, bytesV, hk]; rfl
      rw [e3]
      subst e4
      clear e3
      go_wp2_with fail
      go_ret
      exact ⟨ret_bool (by first | rfl | simp), T5.out.2.2⟩
    | true =>
      have e3 : bytesW k = 0 := by rw [bytesW, hk]; rfl
      rw [e3]
      clear e3
      go_wp2_with fail
      go_ret
      exact ⟨ret_bool (by first | rfl | simp), T5.out.2.2⟩
  | true =>
    have e1 : bytesW l = 0 := by rw [bytesW, hl]; rfl
    rw [e1]
    clear e1
    cases hk : rightN k with
    | false =>
      have e3 : bytesW k = 1 := by rw [bytesW, hk]; rfl
      have e4 : t = [] := by rw [← Ht.out, bytesV, hk]; rfl
      rw [e3]
      subst e4
      clear e3
      go_wp2_with fail
      go_ret
      exact ⟨ret_bool (by first | rfl | simp), T5.out.2.2⟩
    | true =>
      have e3 : bytesW k = 0 := by rw [bytesW, hk]; rfl
      rw [e3]
      clear e3
      have hst : (s == t) = decide (l = k) := by
        rw [← Hs.out, ← Ht.out, bytesV, bytesV, hl, hk, if_pos rfl, if_pos rfl]
        by_cases e : l = k
        · subst e; simp
        · rw [decide_eq_false e, beq_eq_false_iff_ne]
          exact fun h => e (bytes_one (right_ok hl) (right_ok hk) h)
      obtain ⟨q, Hq⟩ : ∃ q, Hid (decide (l = k) = q) := ⟨_, Lib.hid rfl⟩
      rw [Hq.out] at hst
      go_wp2_with fail
      refine (SameE_any A2 A3 n2 c2 n3 c3 l k w5 T5.out.1 T5.out.2.1).mono ?_
      rw [Hq.out]
      rintro e w6 ⟨rfl, b6⟩
      have B6 := Lib.hid (bnext T5.out.2.2 b6)
      clear b6
      have hqq : (q == q) = true := by simp
      go_wp2_with fail
      go_ret
      exact ⟨ret_bool (by first | rfl | simp), B6.out⟩
set_option maxRecDepth 100000 in
theorem lifted (os : Os) (started : os.Started) (H : Type) (enc : TypeId × Value → H) :
    ReturnsInHanded {} Tryd.checked os 9 .any (fun w args => (Rows.entryOneSpec.pre enc Tryd.prog Tryd.f9 [] false w args ∧ laidMetH Tryd.prog laidT w) ∧ sizedMet enc Tryd.prog Tryd.f9 (OpenSpec.ofChange Rows.entryOneSpec) false w args)
      (Rows.entryOneSpec.post enc Tryd.prog Tryd.f9 false true false false) := by
  refine lift15 (C := Tryd.checked) (X := fun w _ => laidMetH Tryd.prog laidT w) (fun _ _ _ hh h => h.of_heap hh) own started (by kernel_rfl) Tryd.func9
    (ChangeSpec.witness_shaped (enc := enc) (C := Tryd.checked) (os := os) (X := fun w _ => laidMetH Tryd.prog laidT w) false (World.laidAll Tryd.prog os laidT) #[.slice none 0 0, .slice none 0 0] 8 (World.laidAll_os _ _ _) (World.shaped_of_ZipB (by kernel_rfl) (by kernel_rfl)) (by kernel_rfl) (by kernel_rfl) (by kernel_rfl) (door_met os _)) ?_
  intro W base args ds gs before hval0 hW _ _ _ hsh _
  have hval : ∀ (j : Nat) t v, Tryd.f9.params[j]? = some t → args[j]? = some v → Value.okWide Tryd.prog W .any base t v := hval0
  have hW' := hW
  obtain ⟨p, q, hA0, hV, rfl, hfz, hnd⟩ := hW
  have hA : DataW.TrodAll enc Tryd.prog W 0 (fun _ => true) true Tryd.f9.params.toList args.toList ds p := hA0
  rw [Tryd.params9] at hA hval
  obtain ⟨v0, vs0, d0, ds0, p0, q0, hargs, rfl, rfl, h0, r0⟩ := trodAll_cons hA
  obtain ⟨v1, vs1, d1, ds1, p1, q1, rfl, rfl, rfl, h1, r1⟩ := trodAll_cons r0
  obtain ⟨rfl, rfl, rfl⟩ := trodAll_nil r1
  obtain rfl : args = #[v0, v1] := by cases args; simp_all
  obtain ⟨x0, len0, cap0, a0, rfl, w0, y0⟩ := opens_ents (hval 0 32 v0 rfl rfl) h0
  obtain ⟨x1, len1, cap1, a1, rfl, w1, y1⟩ := opens_ents (hval 1 32 v1 rfl rfl) h1
  clear hA0 hval0
  refine (walk x0 len0 cap0 a0 x1 len1 cap1 a1 W w0 y0 w1 y1 (mx_of_shape hsh)).mono fun e W' ⟨he, bel⟩ => ?_
  subst he
  exact ⟨_, rfl, law_post laidOut (by rw [Tryd.params9]; decide +kernel) rfl Tryd.underlying4 rfl hW' (fun _ => rfl) bel⟩
theorem over : Rows.entryOneRow.holds Tryd.pinned (OpenSpec.ofChange Rows.entryOneSpec) :=
  OpenClaim.holds_of_wide 9 Tryd.f9 rfl rfl rfl rfl rfl rfl rfl ⟨rfl, rfl, rfl, rfl, rfl⟩ rfl rfl rfl rfl rfl (by kernel_rfl) Tryd.func9 (by kernel_rfl)
    (of_decide_eq_true (by kernel_rfl)) (by unfold Func.isWrapper; first | (rw [if_pos (by decide +kernel)]; kernel_rfl) | (rw [if_neg (by decide +kernel)]; exact ⟨rfl, rfl⟩))
    (fun os started H enc _ => lifted os started H enc)
theorem proved : Rows.EntryOneCardSaid :=
  Claim7.holds_tied_plain_at .later [] [.data, .pinned] true Rows.entryOneCard.stood.harness false over (fun _ h => by cases h) (by kernel_rfl) (fun _ h => by cases h) entryOne_row_tie rfl ⟨rfl, rfl⟩ (by kernel_rfl) rfl
    (fun f fn hf hfn => by
      obtain rfl : f = 9 := Option.some.inj ((show Tryd.prog.funcNamed "lockgate/lockgatelaw15.EntryOne" = some 9 by kernel_rfl).symm.trans hf) |>.symm
      obtain rfl : fn = Tryd.f9 := (Option.some.inj (Tryd.func9.symm.trans hfn)).symm
      exact ⟨by kernel_rfl, fun j t ht => by
        rw [Tryd.params9] at ht
        have hm : t ∈ [32, 32] := by simpa using Array.mem_of_getElem? ht
        have hall : ([32, 32].all fun u => !Tryd.prog.wantsStandIn u) = true := by kernel_rfl
        exact (show Tryd.prog.wantsStandIn t = false by simpa using List.all_eq_true.1 hall t hm)⟩)
    (by kernel_rfl)
end Go.Proofs.YtnoidhfhnaemgaaDoor.entryOne
