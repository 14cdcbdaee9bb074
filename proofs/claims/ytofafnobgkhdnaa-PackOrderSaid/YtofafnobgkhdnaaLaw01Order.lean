/- Of two numbers the bytes are in the order of the numbers: PackOrder. -/
import Derived.Test.YtofafnobgkhdnaaRows
import Derived.Test.YtofafnobgkhdnaaClose
import Derived.Test.YtofafnobgkhdnaaLaw01
namespace Go.Proofs.Ytofafnobgkhdnaa.packOrder
open Go.ChangeShapes Go.WideShapes Go.ChangeAt Go.RowKit
open Go.ChangeMaps (open_string shut_string)

theorem less_snoc : ∀ (a b : List UInt8) (x y : UInt8), a.length = b.length →
    Op.bytesLess (a ++ [x]) (b ++ [y]) = (Op.bytesLess a b || (a == b && decide (x < y)))
  | [], [], x, y, _ => by simp [Op.bytesLess]
  | c :: a, d :: b, x, y, h => by
    have ih := less_snoc a b x y (by simpa using h)
    rw [List.cons_append, List.cons_append, Op.bytesLess, Op.bytesLess, ih]
    by_cases hcd : c = d
    · subst hcd; simp
    · have e : (c == d) = false := by simp [hcd]
      simp [e]
theorem be_inj : ∀ k m n, m < 256 ^ k → n < 256 ^ k → (be k m = be k n ↔ m = n) := by
  intro k m n hm hn
  constructor
  · intro h
    have h2 := congrArg num h
    rw [num_be, num_be, Nat.mod_eq_of_lt hm, Nat.mod_eq_of_lt hn] at h2
    exact h2
  · rintro rfl; rfl
theorem less_be : ∀ k m n, m < 256 ^ k → n < 256 ^ k → Op.bytesLess (be k m) (be k n) = decide (m < n)
  | 0, m, n, hm, hn => by simp at hm hn; simp [be, Op.bytesLess, hm, hn]
  | k + 1, m, n, hm, hn => by
    have h1 : m / 256 < 256 ^ k := by rw [Nat.pow_succ] at hm; omega
    have h2 : n / 256 < 256 ^ k := by rw [Nat.pow_succ] at hn; omega
    rw [be, be, less_snoc _ _ _ _ (by rw [be_length, be_length]), less_be k _ _ h1 h2]
    rw [Bool.eq_iff_iff]
    simp only [Bool.or_eq_true, Bool.and_eq_true, beq_iff_eq, decide_eq_true_eq, be_inj k _ _ h1 h2, UInt8.lt_iff_toNat_lt]
    have e1 : (UInt8.ofNat m).toNat = m % 256 := by simp
    have e2 : (UInt8.ofNat n).toNat = n % 256 := by simp
    rw [e1, e2]
    omega
theorem walk (a0 : Int) (a1 : Int) (w : World) (w0 : (Lit.int .u64 a0).wf = true) (w1 : (Lit.int .u64 a1).wf = true) :
    Calls Try.prog 9 #[.int .u64 a0, .int .u64 a1] w fun e w' => e = .returned (.bool true) ∧ Below w.heap.size w w' := by
  have b0 : 0 ≤ a0 ∧ a0 < 18446744073709551616 := by have := bounds_u64 w0; omega
  have b1 : 0 ≤ a1 ∧ a1 < 18446744073709551616 := by have := bounds_u64 w1; omega
  have l8 : (be 8 a0.toNat).length = 8 := be_length _ _
  have f1 : Op.bytesLess (be 8 a0.toNat) (be 8 a1.toNat) = decide (a0 < a1) := by
    rw [less_be 8 _ _ (by omega) (by omega)]; exact decide_eq_decide.2 (by omega)
  have f2 : Op.bytesLess (be 4 (a0 % 4294967296).toNat) (be 4 (a1 % 4294967296).toNat) = decide (a0 % 4294967296 < a1 % 4294967296) := by
    rw [less_be 4 _ _ (by omega) (by omega)]; exact decide_eq_decide.2 (by omega)
  have u0 := IntKind.wrap_u16 a0
  have u1 := IntKind.wrap_u16 a1
  have g0 : 0 ≤ IntKind.u16.wrap a0 ∧ IntKind.u16.wrap a0 < 65536 := by omega
  have g1 : 0 ≤ IntKind.u16.wrap a1 ∧ IntKind.u16.wrap a1 < 65536 := by omega
  clear u0 u1
  have f3 : (be 2 (IntKind.u16.wrap a0).toNat == be 2 (IntKind.u16.wrap a1).toNat) = (IntKind.u16.wrap a0 == IntKind.u16.wrap a1) := by
    rw [Bool.eq_iff_iff, beq_iff_eq, beq_iff_eq, be_inj 2 _ _ (by omega) (by omega)]; omega
  go_enter Try.func9, Try.ntmps9
  go_wp2_with fail
  refine (awake_any _).mono ?_
  rintro e w1 ⟨rfl, hb1⟩
  go_wp2_with fail
  refine (Eight_any a0 (by omega) (by omega) _).mono ?_
  rintro e w2 ⟨rfl, hb2⟩
  go_wp2_with fail
  refine (Eight_any a1 (by omega) (by omega) _).mono ?_
  rintro e w3 ⟨rfl, hb3⟩
  go_wp2_with fail
  refine (Four_any _ (by omega) (by omega) _).mono ?_
  rintro e w4 ⟨rfl, hb4⟩
  go_wp2_with fail
  refine (Four_any _ (by omega) (by omega) _).mono ?_
  rintro e w5 ⟨rfl, hb5⟩
  go_wp2_with fail
  refine (Two_any _ (by omega) (by omega) _).mono ?_
  rintro e w6 ⟨rfl, hb6⟩
  go_wp2_with fail
  refine (Two_any _ (by omega) (by omega) _).mono ?_
  rintro e w7 ⟨rfl, hb7⟩
  go_wp2_with fail
  refine (Eight_any a0 (by omega) (by omega) _).mono ?_
  rintro e w8 ⟨rfl, hb8⟩
  go_wp2
  go_ret
  exact ⟨rfl, bnext (bnext (bnext (bnext (bnext (bnext (bnext hb1 hb2) hb3) hb4) hb5) hb6) hb7) hb8⟩
theorem own : ownKnob Try.prog.godebug = none := by kernel_rfl
theorem laidOut : laidOutB Try.prog = true := by kernel_rfl
set_option maxRecDepth 100000 in
theorem lifted (os : Os) (started : os.Started) (H : Type) (enc : TypeId × Value → H) :
    ReturnsInHanded {} Try.checked os 9 .any (Rows.packOrderSpec.pre6 enc Try.prog Try.f9 Rows.packOrderRow.domain false) (Rows.packOrderSpec.post enc Try.prog Try.f9 false true false false) := by
  refine returnsInHanded_of_change (C := Try.checked) own started (by kernel_rfl) Try.func9
    (ChangeSpec.witness6 (enc := enc) (C := Try.checked) false ⟨#[], #[.int .u64 0, .int .u64 0], []⟩ 8 (by kernel_rfl) (by kernel_rfl) (by kernel_rfl) (by kernel_rfl)) ?_
  intro W base args ds gs before hval0 hW hcnd _
  have hval : ∀ (j : Nat) t v, Try.f9.params[j]? = some t → args[j]? = some v → Value.okWide Try.prog W .any base t v := hval0
  have hW' := hW
  obtain ⟨p, q, hA0, hV, rfl, hfz, hnd⟩ := hW
  have hA : DataW.TrodAll enc Try.prog W 0 (fun _ => true) true Try.f9.params.toList args.toList ds p := hA0
  rw [Try.params9] at hA hval
  obtain ⟨v0, vs0, d0, ds0, p0, q0, hargs, rfl, rfl, h0, r0⟩ := trodAll_cons hA
  obtain ⟨v1, vs1, d1, ds1, p1, q1, rfl, rfl, rfl, h1, r1⟩ := trodAll_cons r0
  obtain ⟨rfl, rfl, rfl⟩ := trodAll_nil r1
  obtain rfl : args = #[v0, v1] := by cases args; simp_all
  obtain ⟨a0, rfl, rfl, rfl, w0⟩ := open_int Try.underlying22 (hval 0 22 v0 rfl rfl) h0
  obtain ⟨a1, rfl, rfl, rfl, w1⟩ := open_int Try.underlying22 (hval 1 22 v1 rfl rfl) h1
  clear hA0 hval0
  refine (walk a0 a1 W w0 w1).mono fun e W' ⟨he, bel⟩ => ?_
  subst he
  exact ⟨_, rfl, law_post laidOut (by rw [Try.params9]; decide +kernel) rfl Try.underlying4 rfl hW' (fun _ => rfl) bel⟩
theorem over : Rows.packOrderRow.holds Try.pinned (OpenSpec.ofChange Rows.packOrderSpec) :=
  OpenClaim.holds_of_wide 9 Try.f9 rfl rfl rfl rfl rfl rfl rfl ⟨rfl, rfl, rfl, rfl, rfl⟩ rfl rfl rfl rfl rfl (by kernel_rfl) Try.func9 (by kernel_rfl)
    (of_decide_eq_true (by kernel_rfl)) (by unfold Func.isWrapper; first | (rw [if_pos (by decide +kernel)]; kernel_rfl) | (rw [if_neg (by decide +kernel)]; exact ⟨rfl, rfl⟩))
    (fun os started H enc _ => lifted os started H enc)
theorem proved : Rows.PackOrderSaid := over
end Go.Proofs.Ytofafnobgkhdnaa.packOrder
