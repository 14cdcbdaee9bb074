/- The first entry that is so, at this translation. -/
import Derived.Test.YtiomhdanmcnaeaaGreatDoorEr15
namespace Go.Proofs.YtiomhdanmcnaeaaGreatDoor
open Go.RowKit

/-- A closure that tells of a list's entries, one behind the other, whether each is so. -/
structure ClosE (W0 w : World) (l : List Ent) (k : FuncId) (q : Value) (Inv : Nat → World → Prop) (Q : Nat → Bool) : Prop where
  call : ∀ args u, (callFunc k args).run Tryz.prog u = .ok (.enter k args) u
  first : Inv 0 w
  below : ∀ j u, Inv j u → Below W0.heap.size W0 u
  grows : ∀ j u u', Inv j u → Below u.heap.size u u' → Inv j u'
  run : ∀ j u z, Inv j u → l[j]? = some z → Calls Tryz.prog k #[.agg #[.string (str z.1), .int .i64 z.2], q] u fun e u' => e = .returned (.bool (Q j)) ∧ Inv (j + 1) u'
set_option maxRecDepth 100000 in
set_option maxHeartbeats 4000000 in
theorem FindE_any (W0 w : World) (A : Option Addr) (n c : Nat) (l : List Ent) (hl : IsG W0 2 encN A n l) (k : FuncId) (q : Value) (Inv : Nat → World → Prop) (Q : Nat → Bool) (h : ClosE W0 w l k q Inv Q) :
    Calls Tryz.prog 46 #[.slice A n c, .func (.func k) #[] #[q]] w fun e w' => ∃ z : Nat, e = .returned (.int .i64 z) ∧ z ≤ n ∧ (∀ j, j < z → Q j = false) ∧ (z < n → Q z = true) ∧ ∃ i, Inv i w' := by
  have hn := hl.small
  have Hl := Lib.hid hl
  have H := Lib.hid h
  have hcall := h.call
  clear h hl
  go_enter Tryz.func46, Tryz.ntmps46
  go_wp2
  go_loopw [9] (fun i wr => ∃ j : Nat, i = .int .i64 (j : Int) ∧ j ≤ n ∧ Hid (∀ i, i < j → Q i = false) ∧ Hid (Inv j wr)) (fun i _ => n - (intOf i).toNat)
  case atStart => exact ⟨0, rfl, Nat.zero_le _, Lib.hid (fun i h => absurd h (Nat.not_lt_zero _)), Lib.hid H.out.first⟩
  case round =>
    obtain ⟨j, rfl, hj, HQ, HI⟩ := hrel
    by_cases hlt : j < n
    · have hltI : (j : Int) < (n : Int) := by omega
      obtain ⟨z, hz⟩ : ∃ z, l[j]? = some z := ⟨_, List.getElem?_eq_getElem (by rw [Hl.out.length]; exact hlt)⟩
      obtain ⟨g, off, rfl, hg, e0, e1⟩ := (Hl.out.below (H.out.below _ _ HI.out)).ent hz
      obtain ⟨W, HW⟩ : ∃ x, Hid (wr.alloc (.cells #[.string (str z.1), .int .i64 z.2] 82) = x) := ⟨_, Lib.hid rfl⟩
      have HIW : Hid (Inv j W) := Lib.hid (H.out.grows _ _ _ HI.out (by rw [← HW.out]; exact balloc (Below.refl _ wr) _))
      have Hr := Lib.hid (H.out.run j W z HIW.out hz)
      obtain ⟨b, Hb⟩ : ∃ b, Hid (Q j = b) := ⟨_, Lib.hid rfl⟩
      clear hz
      go_wp2_with fail
      rw [HW.out]
      refine Hr.out.mono ?_
      rw [Hb.out]
      rintro e w1 ⟨rfl, h1⟩
      have HI1 := Lib.hid h1
      clear h1
      cases b
      · have HQ2 : Hid (∀ i, i < j + 1 → Q i = false) := Lib.hid (fun i hi => by
          rcases Nat.lt_succ_iff_lt_or_eq.1 hi with h | h
          · exact HQ.out i h
          · rw [h]; exact Hb.out)
        go_wp2
        go_roundw
        case rel => exact ⟨j + 1, by go_num, by omega, HQ2, HI1⟩
        case measure => simp [intOf]; omega
      · go_wp2
        go_ret
        exact ⟨j, rfl, by omega, HQ.out, fun _ => Hb.out, _, HI1.out⟩
    · obtain rfl : j = n := by omega
      go_wp2
      go_ret
      exact ⟨j, rfl, by omega, HQ.out, fun h => absurd h (Nat.lt_irrefl _), _, HI.out⟩
end Go.Proofs.YtiomhdanmcnaeaaGreatDoor
