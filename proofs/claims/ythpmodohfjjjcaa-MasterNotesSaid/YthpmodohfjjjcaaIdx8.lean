/- Whether a claim is so, asked of each one in turn by a closure that may keep what it has seen. -/
import Derived.Test.YthpmodohfjjjcaaClaim
namespace Go.Proofs.Ythpmodohfjjjcaa
open Go.RowKit

/-- What a closure is that is asked of claims: what holds ahead of each, what it tells of each. -/
structure ClosC (W0 w : World) (l : List Cl) (k : FuncId) (q r : Value) (Inv : Nat → World → Prop) (Q : Nat → Bool) : Prop where
  call : ∀ args u, (callFunc k args).run Try.prog u = .ok (.enter k args) u
  first : Inv 0 w
  below : ∀ i u, Inv i u → Below W0.heap.size W0 u
  run : ∀ i u c, Inv i u → l[i]? = some c → Calls Try.prog k #[clV c, q, r] u fun e u' => e = .returned (.bool (Q i)) ∧ Inv (i + 1) u'
def anyQ (Q : Nat → Bool) (n : Nat) : Bool := (List.range n).any Q
theorem any_zero (Q : Nat → Bool) : anyQ Q 0 = false := rfl
theorem any_next (Q : Nat → Bool) (n : Nat) : anyQ Q (n + 1) = (anyQ Q n || Q n) := by simp [anyQ, List.range_succ]
theorem any_yes {Q : Nat → Bool} {n i : Nat} (h : Q i = true) (hi : i < n) : anyQ Q n = true := by
  simp only [anyQ, List.any_eq_true]
  exact ⟨i, List.mem_range.2 hi, h⟩
set_option maxRecDepth 100000 in
set_option maxHeartbeats 1000000 in
theorem IndexFunc_any (W0 w : World) (A : Option Addr) (n c : Nat) (l : List Cl) (hl : IsC W0 A n l) (k : FuncId) (q r : Value) (Inv : Nat → World → Prop) (Q : Nat → Bool) (h : ClosC W0 w l k q r Inv Q) :
    Calls Try.prog 86 #[.slice A n c, .func (.func k) #[] #[q, r]] w fun e w' => ∃ z : Int, e = .returned (.int .i64 z) ∧ decide (0 ≤ z) = anyQ Q n ∧ ∃ i, Inv i w' := by
  have hn := hl.small
  have Hl := Lib.hid hl
  have H := Lib.hid h
  have hcall := h.call
  clear h hl
  go_enter Try.func86, Try.ntmps86
  go_wp2
  go_loopw [5, 8] (fun _ i wr => ∃ j : Nat, i = .int .i64 (j : Int) ∧ j ≤ n ∧ Hid (anyQ Q j = false) ∧ Hid (Inv j wr)) (fun _ i _ => n - (intOf i).toNat)
  case atStart => exact ⟨0, rfl, Nat.zero_le _, Lib.hid rfl, Lib.hid H.out.first⟩
  case round =>
    obtain ⟨j, rfl, hj, HQ, HI⟩ := hrel
    by_cases hlt : j < n
    · obtain ⟨x, hx⟩ : ∃ x, l[j]? = some x := ⟨_, List.getElem?_eq_getElem (by rw [Hl.out.length]; exact hlt)⟩
      obtain ⟨g, off, rfl, hg, hc⟩ := (Hl.out.below (H.out.below _ _ HI.out)).cells (by omega)
      obtain ⟨c0, c1⟩ := hc j x hx
      have Hr := Lib.hid (H.out.run j wr x HI.out hx)
      have Hnx := Lib.hid (any_next Q j)
      have Hyes : Hid (Q j = true → anyQ Q n = true) := Lib.hid (fun e => any_yes e hlt)
      obtain ⟨b, Hb⟩ : ∃ b, Hid (Q j = b) := ⟨_, Lib.hid rfl⟩
      clear hc hx
      go_wp2_with fail
      refine Hr.out.mono ?_
      rw [Hb.out]
      rintro e w1 ⟨rfl, h1⟩
      have HI1 := Lib.hid h1
      clear h1
      cases b
      · go_wp2
        go_roundw
        case rel => exact ⟨j + 1, by go_num, by omega, Lib.hid (by rw [Hnx.out, HQ.out, Hb.out]; rfl), HI1⟩
        case measure => simp [intOf]; omega
      · go_wp2
        go_ret
        exact ⟨_, rfl, by rw [Hyes.out Hb.out]; simp, _, HI1.out⟩
    · obtain rfl : j = n := by omega
      go_wp2
      go_ret
      exact ⟨_, rfl, by rw [HQ.out]; rfl, _, HI.out⟩
set_option maxRecDepth 100000 in
theorem ContainsFunc_any (W0 w : World) (A : Option Addr) (n c : Nat) (l : List Cl) (hl : IsC W0 A n l) (k : FuncId) (q r : Value) (Inv : Nat → World → Prop) (Q : Nat → Bool) (h : ClosC W0 w l k q r Inv Q) :
    Calls Try.prog 90 #[.slice A n c, .func (.func k) #[] #[q, r]] w fun e w' => e = .returned (.bool (anyQ Q n)) ∧ ∃ i, Inv i w' := by
  have H := Lib.hid (IndexFunc_any W0 w A n c l hl k q r Inv Q h)
  clear h hl
  obtain ⟨b, Hb⟩ : ∃ b, Hid (anyQ Q n = b) := ⟨_, Lib.hid rfl⟩
  rw [Hb.out]
  go_enter Try.func90, Try.ntmps90
  go_wp2_with fail
  refine H.out.mono ?_
  rw [Hb.out]
  rintro e w1 ⟨z, rfl, h1, h2⟩
  have H1 := Lib.hid h1
  have H2 := Lib.hid h2
  clear h1 h2
  go_wp2
  go_ret
  exact ⟨ret_bool H1.out, H2.out⟩
end Go.Proofs.Ythpmodohfjjjcaa
