/- In whatever order two bits are set, the bitmap is the same; the one that was set last of one place counts: BitmapTwo. -/
import Derived.Test.YtnfnhknahdkcjaaRows
import Derived.Test.YtnfnhknahdkcjaaRef03b
import Derived.Test.YtnfnhknahdkcjaaArr
import Derived.Deep.RegionHeld3
namespace Go.Proofs.Ytnfnhknahdkcjaa.bitmapTwo
open Go.RowKit Go.ChangeShapes Go.WideShapes Go.ChangeAt
open Go.ChangeMaps (open_string shut_string)

theorem short_len (a : List UInt8) : (a.take 100).length ≤ 100 := by simp; omega

theorem set_set (l : List UInt8) (i j : Int) (s t : Bool) (h : i ≠ j) : Bm.setI (Bm.setI l i s) j t = Bm.setI (Bm.setI l j t) i s := by
  by_cases hi : 0 ≤ i
  · obtain ⟨a, rfl⟩ := Int.eq_ofNat_of_zero_le hi
    by_cases hj : 0 ≤ j
    · obtain ⟨b, rfl⟩ := Int.eq_ofNat_of_zero_le hj
      have hab : a ≠ b := by omega
      simp only [Bm.setI_nat]
      apply Bm.ext (by simp only [Bm.set_length])
      intro k _
      simp only [Bm.bit_set, Bm.set_length]
      by_cases e1 : k = a
      · subst e1
        simp [hab]
      · by_cases e2 : k = b
        · subst e2; simp [e1]
        · simp [e1, e2]
    · rw [Bm.setI_neg (i := j) (by omega), Bm.setI_neg (i := j) (by omega)]
  · rw [Bm.setI_neg (i := i) (by omega), Bm.setI_neg (i := i) (by omega)]
theorem set_again (l : List UInt8) (i : Int) (s t : Bool) : Bm.setI (Bm.setI l i s) i t = Bm.setI l i t := by
  by_cases hi : 0 ≤ i
  · obtain ⟨a, rfl⟩ := Int.eq_ofNat_of_zero_le hi
    simp only [Bm.setI_nat]
    apply Bm.ext (by simp only [Bm.set_length])
    intro k _
    simp only [Bm.bit_set, Bm.set_length]
    by_cases e1 : k = a
    · subst e1
      by_cases h2 : k < 8 * l.length <;> simp [h2]
    · simp [e1]
  · rw [Bm.setI_neg (i := i) (t := s) (by omega)]
/-- The two boxes, and all that there was. -/
structure Boxes (w : World) (B : Nat) (x y : Int) (s t : Bool) (u : World) : Prop where
  below : Below w.heap.size w u
  c0 : u.cell? ⟨B, 0, none⟩ = some (.int .i64 x)
  c1 : u.cell? ⟨B, 1, none⟩ = some (.int .i64 y)
  d0 : u.cell? ⟨B + 1, 0, none⟩ = some (.bool s)
  d1 : u.cell? ⟨B + 1, 1, none⟩ = some (.bool t)
theorem Boxes.later {w u u' : World} {B : Nat} {x y : Int} {s t : Bool} (h : Boxes w B x y s t u) (k : Below u.heap.size u u') : Boxes w B x y s t u' :=
  ⟨bnext h.below k, (k.cell (lt_of_cell h.c0)).trans h.c0, (k.cell (lt_of_cell h.c1)).trans h.c1, (k.cell (lt_of_cell h.d0)).trans h.d0, (k.cell (lt_of_cell h.d1)).trans h.d1⟩
theorem Boxes.drew {w u : World} {B : Nat} {x y : Int} {s t : Bool} (h : Boxes w B x y s t u) : Boxes w B x y s t u.drew := h.later (below_drewN u 1)
theorem Boxes.all {w u : World} {B : Nat} {x y : Int} {s t : Bool} (h : Boxes w B x y s t u) : Boxes w B x y s t u ∧ u.cell? ⟨B, 0, none⟩ = some (.int .i64 x) ∧ u.cell? ⟨B, 1, none⟩ = some (.int .i64 y) ∧ u.cell? ⟨B + 1, 0, none⟩ = some (.bool s) ∧ u.cell? ⟨B + 1, 1, none⟩ = some (.bool t) :=
  ⟨h, h.c0, h.c1, h.d0, h.d1⟩
set_option maxRecDepth 100000 in
set_option maxHeartbeats 4000000 in
theorem walk (a : List UInt8) (x y : Int) (s t : Bool) (w : World) (_ha : a.length ≤ maxLen) (_hx : (Lit.int .i64 x).wf = true) (_hy : (Lit.int .i64 y).wf = true) :
    Calls Try.prog 8 #[.string (str a), .agg #[.int .i64 x, .int .i64 y], .agg #[.bool s, .bool t]] w fun e w' => e = .returned (.bool true) ∧ Below w.heap.size w w' := by
  have hl := short_len a
  have Hbox : Hid (Boxes w w.heap.size x y s t ((w.alloc (.cells #[.int .i64 x, .int .i64 y] 35)).alloc (.cells #[.bool s, .bool t] 36))) :=
    Lib.hid ⟨((Below.refl _ _).alloc (Nat.le_refl _) _).alloc (by simp) _, by simp [go_sem], by simp [go_sem], by simp [go_sem], by simp [go_sem]⟩
  go_enter Try.func8, Try.ntmps8
  go_wp2_with fail
  refine (awake_any _).mono ?_
  rintro e w1 ⟨rfl, hb1⟩
  have Hb1 := Lib.hid (Hbox.out.later hb1)
  clear hb1 Hbox
  go_wp2_with fail
  refine (short_any _ _).mono ?_
  rintro e w2 ⟨rfl, rfl⟩
  obtain ⟨l, Hl⟩ : ∃ l, Hid (a.take 100 = l) := ⟨_, Lib.hid rfl⟩
  rw [Hl.out] at hl ⊢
  obtain ⟨B, HB⟩ : ∃ B, Hid (w.heap.size = B) := ⟨_, Lib.hid rfl⟩
  rw [HB.out] at Hb1 ⊢
  have hls : ∀ i u, (Bm.setI l i u).length ≤ 100000 := by intro i u; rw [Bm.setI_length]; omega
  have Hls := Lib.hid hls
  clear hls
  go_wp2_with fail
  go_region_held3 (fun u => Boxes w B x y s t u ∧ u.cell? ⟨B, 0, none⟩ = some (.int .i64 x) ∧ u.cell? ⟨B, 1, none⟩ = some (.int .i64 y) ∧ u.cell? ⟨B + 1, 0, none⟩ = some (.bool s) ∧ u.cell? ⟨B + 1, 1, none⟩ = some (.bool t))
    (first | exact Hb1.out.all | exact Hb1.out.drew.all | (go_split_ands; exact Boxes.all (Boxes.later (by assumption) hb2)))
    (first | (go_at_call 18; refine (Set_any _ (by first | omega | exact Hls.out _ _) _ _ _).mono ?_; rintro e wc ⟨rfl, hb2⟩))
  rename_i hh
  have Hb3 := Lib.hid hh.1
  clear hh hb2 Hb1
  go_wp2_with fail
  go_region_held3 (fun u => Boxes w B x y s t u ∧ u.cell? ⟨B, 0, none⟩ = some (.int .i64 x) ∧ u.cell? ⟨B, 1, none⟩ = some (.int .i64 y) ∧ u.cell? ⟨B + 1, 0, none⟩ = some (.bool s) ∧ u.cell? ⟨B + 1, 1, none⟩ = some (.bool t))
    (first | exact Hb3.out.all | exact Hb3.out.drew.all | (go_split_ands; exact Boxes.all (Boxes.later (by assumption) hb2)))
    (first | (go_at_call 18; refine (Set_any _ (by first | omega | exact Hls.out _ _) _ _ _).mono ?_; rintro e wc ⟨rfl, hb2⟩))
  rename_i hh
  have Hb4 := Lib.hid hh.1
  clear hh hb2 Hb3
  by_cases hxy : x = y
  · subst hxy
    have Ha1 := Lib.hid (set_again l x s t)
    have Ha2 := Lib.hid (set_again l x t s)
    rw [Ha1.out, Ha2.out]
    have q : (x == x) = true := by simp
    obtain ⟨-, hc0, hc1, hd0, hd1⟩ := Hb4.out
    go_wp2_with fail
    refine (Set_any _ (by omega) _ _ _).mono ?_
    rintro e w5 ⟨rfl, hb5⟩
    have Hb5 := Lib.hid (Hb4.out.later hb5)
    clear hb5 hc0 hc1 hd0 hd1
    obtain ⟨-, hc0, hc1, hd0, hd1⟩ := Hb5.out
    go_wp2_with fail
    refine (Set_any _ (by omega) _ _ _).mono ?_
    rintro e w6 ⟨rfl, hb6⟩
    have Hb6 := Lib.hid (Hb5.out.later hb6)
    clear hb6 hc0 hc1 hd0 hd1
    go_wp2
    go_ret
    exact ⟨rfl, HB.out ▸ Hb6.out.below⟩
  · have Ha1 := Lib.hid (set_set l x y s t hxy)
    rw [Ha1.out]
    have q : (x == y) = false := by simp [hxy]
    clear hxy
    obtain ⟨-, hc0, hc1, hd0, hd1⟩ := Hb4.out
    go_wp2
    go_ret
    exact ⟨rfl, HB.out ▸ Hb4.out.below⟩
theorem own : ownKnob Try.prog.godebug = none := by kernel_rfl
theorem laidOut : laidOutB Try.prog = true := by kernel_rfl
set_option maxRecDepth 100000 in
theorem lifted (os : Os) (started : os.Started) (H : Type) (enc : TypeId × Value → H) :
    ReturnsInHanded {} Try.checked os 8 .any (Rows.bitmapTwoSpec.pre6 enc Try.prog Try.f8 Rows.bitmapTwoRow.domain false) (Rows.bitmapTwoSpec.post enc Try.prog Try.f8 false true false false) := by
  refine returnsInHanded_of_change (C := Try.checked) own started (by kernel_rfl) Try.func8
    (ChangeSpec.witness6 (enc := enc) (C := Try.checked) false ⟨#[], #[.string ByteArray.empty, .agg #[.int .i64 0, .int .i64 0], .agg #[.bool false, .bool false]], []⟩ 8 (by kernel_rfl) (by kernel_rfl) (by kernel_rfl) (by kernel_rfl)) ?_
  intro W base args ds gs before hval0 hW hcnd _
  have hval : ∀ (j : Nat) t v, Try.f8.params[j]? = some t → args[j]? = some v → Value.okWide Try.prog W .any base t v := hval0
  have hW' := hW
  obtain ⟨p, q, hA0, hV, rfl, hfz, hnd⟩ := hW
  have hA : DataW.TrodAll enc Try.prog W 0 (fun _ => true) true Try.f8.params.toList args.toList ds p := hA0
  rw [Try.params8] at hA hval
  obtain ⟨v0, vs0, d0, ds0, p0, q0, hargs, rfl, rfl, h0, r0⟩ := trodAll_cons hA
  obtain ⟨v1, vs1, d1, ds1, p1, q1, rfl, rfl, rfl, h1, r1⟩ := trodAll_cons r0
  obtain ⟨v2, vs2, d2, ds2, p2, q2, rfl, rfl, rfl, h2, r2⟩ := trodAll_cons r1
  obtain ⟨rfl, rfl, rfl⟩ := trodAll_nil r2
  obtain rfl : args = #[v0, v1, v2] := by cases args; simp_all
  obtain ⟨s0, rfl, rfl, rfl, w0⟩ := open_string Try.underlying9 (hval 0 9 v0 rfl rfl) h0
  obtain ⟨a0, rfl⟩ := str_of s0
  rw [str_size] at w0
  obtain ⟨a1, b1, rfl, w1, y1⟩ := opens_int2 Try.underlying35 (by kernel_rfl) (by kernel_rfl) Try.underlying3 (hval 1 35 v1 rfl rfl) h1
  obtain ⟨a2, b2, rfl⟩ := opens_bool2 Try.underlying36 (by kernel_rfl) (by kernel_rfl) Try.underlying4 (hval 2 36 v2 rfl rfl) h2
  clear hA0 hval0
  refine (walk a0 a1 b1 a2 b2 W w0 w1 y1 ).mono fun e W' ⟨he, bel⟩ => ?_
  subst he
  exact ⟨_, rfl, law_post laidOut (by rw [Try.params8]; decide +kernel) rfl Try.underlying4 rfl hW' (fun _ => rfl) bel⟩
theorem over : Rows.bitmapTwoRow.holds Try.pinned (OpenSpec.ofChange Rows.bitmapTwoSpec) :=
  OpenClaim.holds_of_wide 8 Try.f8 rfl rfl rfl rfl rfl rfl rfl ⟨rfl, rfl, rfl, rfl, rfl⟩ rfl rfl rfl rfl rfl (by kernel_rfl) Try.func8 (by kernel_rfl)
    (of_decide_eq_true (by kernel_rfl)) (by unfold Func.isWrapper; first | (rw [if_pos (by decide +kernel)]; kernel_rfl) | (rw [if_neg (by decide +kernel)]; exact ⟨rfl, rfl⟩))
    (fun os started H enc _ => lifted os started H enc)
theorem proved : Rows.BitmapTwoSaid := over
end Go.Proofs.Ytnfnhknahdkcjaa.bitmapTwo
