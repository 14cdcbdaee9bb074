/- Bits are told, set and counted as the document says: BitmapBits. -/
import Derived.Test.YtnfnhknahdkcjaaRows
import Derived.Test.YtnfnhknahdkcjaaRef03b
namespace Go.Proofs.Ytnfnhknahdkcjaa.bitmapBits
open Go.RowKit Go.ChangeShapes Go.WideShapes Go.ChangeAt
open Go.ChangeMaps (open_string shut_string)

theorem short_len (a : List UInt8) : (a.take 100).length ≤ 100 := by simp; omega

theorem walk (a : List UInt8) (i : Int) (t : Bool) (w : World) (_ha : a.length ≤ maxLen) (hi : (Lit.int .i64 i).wf = true) :
    Calls Try.prog 4 #[.string (str a), .int .i64 i, .bool t] w fun e w' => e = .returned (.bool true) ∧ Below w.heap.size w w' := by
  have hi9 : i ≤ 9223372036854775807 := by have := bounds_i64 hi; omega
  clear hi
  have hl := short_len a
  go_enter Try.func4, Try.ntmps4
  go_wp2_with fail
  refine (awake_any _).mono ?_
  rintro e w1 ⟨rfl, hb1⟩
  have Hb1 := Lib.hid hb1
  clear hb1
  go_wp2_with fail
  refine (short_any _ _).mono ?_
  rintro e w2 ⟨rfl, rfl⟩
  obtain ⟨l, Hl⟩ : ∃ l, Hid (a.take 100 = l) := ⟨_, Lib.hid rfl⟩
  rw [Hl.out] at hl ⊢
  go_wp2_with fail
  refine (Set_any _ (by omega) _ _ _).mono ?_
  rintro e w2 ⟨rfl, hb2⟩
  have Hb2 := Lib.hid (bnext Hb1.out hb2)
  clear hb2
  go_wp2_with fail
  refine (XEach_any _ (by omega) _).mono ?_
  rintro e w3 ⟨x, n, c, rfl, hx, hb3⟩
  have Hb3 := Lib.hid (bnext Hb2.out hb3)
  have Hx := Lib.hid hx
  have hn : n = (Bm.each l).length := by have := hx.length; simp [ints] at this; omega
  have Hn := Lib.hid hn
  clear hb3 hx hn
  go_wp2_with fail
  refine (Each_any _ (by omega) _).mono ?_
  rintro e w4 ⟨y, m, d, rfl, hy, hb4⟩
  have Hb4 := Lib.hid (bnext Hb3.out hb4)
  have Hx4 := Lib.hid (Hx.out.below hb4)
  have Hy := Lib.hid hy
  clear hb4 hy
  go_wp2_with fail
  refine (Same_eq _ _ _ _ _ _ _ _ Hy.out Hx4.out).mono ?_
  rintro e w5 ⟨rfl, hb5⟩
  have Hb5 := Lib.hid (bnext Hb4.out hb5)
  clear hb5
  go_wp2_with fail
  refine (Has_any _ (by omega) _ _).mono ?_
  rintro e w6 ⟨rfl, rfl⟩
  go_wp2_with fail
  refine (XHas_any _ (by omega) _ hi9 _).mono ?_
  rintro e w6 ⟨rfl, rfl⟩
  go_wp2_with fail
  refine (XSet_any _ (by omega) _ hi9 _ _).mono ?_
  rintro e w6 ⟨rfl, hb6⟩
  have Hb6 := Lib.hid (bnext Hb5.out hb6)
  clear hb6
  go_wp2_with fail
  refine (First_any _ (by omega) _ hi9 _).mono ?_
  rintro e w7 ⟨rfl, rfl⟩
  go_wp2_with fail
  refine (XFirst_any _ (by omega) _ hi9 _).mono ?_
  rintro e w7 ⟨rfl, rfl⟩
  go_wp2_with fail
  refine (Count_any _ (by omega) _).mono ?_
  rintro e w7 ⟨rfl, rfl⟩
  rw [Hn.out, Bm.count]
  go_wp2
  go_ret
  exact ⟨rfl, Hb6.out⟩
theorem own : ownKnob Try.prog.godebug = none := by kernel_rfl
theorem laidOut : laidOutB Try.prog = true := by kernel_rfl
set_option maxRecDepth 100000 in
theorem lifted (os : Os) (started : os.Started) (H : Type) (enc : TypeId × Value → H) :
    ReturnsInHanded {} Try.checked os 4 .any (Rows.bitmapBitsSpec.pre6 enc Try.prog Try.f4 Rows.bitmapBitsRow.domain false) (Rows.bitmapBitsSpec.post enc Try.prog Try.f4 false true false false) := by
  refine returnsInHanded_of_change (C := Try.checked) own started (by kernel_rfl) Try.func4
    (ChangeSpec.witness6 (enc := enc) (C := Try.checked) false ⟨#[], #[.string ByteArray.empty, .int .i64 0, .bool false], []⟩ 8 (by kernel_rfl) (by kernel_rfl) (by kernel_rfl) (by kernel_rfl)) ?_
  intro W base args ds gs before hval0 hW hcnd _
  have hval : ∀ (j : Nat) t v, Try.f4.params[j]? = some t → args[j]? = some v → Value.okWide Try.prog W .any base t v := hval0
  have hW' := hW
  obtain ⟨p, q, hA0, hV, rfl, hfz, hnd⟩ := hW
  have hA : DataW.TrodAll enc Try.prog W 0 (fun _ => true) true Try.f4.params.toList args.toList ds p := hA0
  rw [Try.params4] at hA hval
  obtain ⟨v0, vs0, d0, ds0, p0, q0, hargs, rfl, rfl, h0, r0⟩ := trodAll_cons hA
  obtain ⟨v1, vs1, d1, ds1, p1, q1, rfl, rfl, rfl, h1, r1⟩ := trodAll_cons r0
  obtain ⟨v2, vs2, d2, ds2, p2, q2, rfl, rfl, rfl, h2, r2⟩ := trodAll_cons r1
  obtain ⟨rfl, rfl, rfl⟩ := trodAll_nil r2
  obtain rfl : args = #[v0, v1, v2] := by cases args; simp_all
  obtain ⟨s0, rfl, rfl, rfl, w0⟩ := open_string Try.underlying9 (hval 0 9 v0 rfl rfl) h0
  obtain ⟨a0, rfl⟩ := str_of s0
  rw [str_size] at w0
  obtain ⟨a1, rfl, rfl, rfl, w1⟩ := open_int Try.underlying3 (hval 1 3 v1 rfl rfl) h1
  obtain ⟨a2, rfl, rfl, rfl⟩ := open_bool Try.underlying4 (hval 2 4 v2 rfl rfl) h2
  clear hA0 hval0
  refine (walk a0 a1 a2 W w0 w1 ).mono fun e W' ⟨he, bel⟩ => ?_
  subst he
  exact ⟨_, rfl, law_post laidOut (by rw [Try.params4]; decide +kernel) rfl Try.underlying4 rfl hW' (fun _ => rfl) bel⟩
theorem over : Rows.bitmapBitsRow.holds Try.pinned (OpenSpec.ofChange Rows.bitmapBitsSpec) :=
  OpenClaim.holds_of_wide 4 Try.f4 rfl rfl rfl rfl rfl rfl rfl ⟨rfl, rfl, rfl, rfl, rfl⟩ rfl rfl rfl rfl rfl (by kernel_rfl) Try.func4 (by kernel_rfl)
    (of_decide_eq_true (by kernel_rfl)) (by unfold Func.isWrapper; first | (rw [if_pos (by decide +kernel)]; kernel_rfl) | (rw [if_neg (by decide +kernel)]; exact ⟨rfl, rfl⟩))
    (fun os started H enc _ => lifted os started H enc)
theorem proved : Rows.BitmapBitsSaid := over
end Go.Proofs.Ytnfnhknahdkcjaa.bitmapBits
