/- Where the first claim is that is so. -/
import Derived.Test.YthpmodohfjjjcaaCRow9
namespace Go.Proofs.Ythpmodohfjjjcaa
open Go.RowKit

def idxM (p : Cl → Bool) (l : List Cl) : Int := if l.any p then (l.findIdx p : Int) else -1
theorem idx_none {p : Cl → Bool} {l : List Cl} (h : l.any p = false) : idxM p l = -1 := by simp [idxM, h]
theorem take_any_step {p : Cl → Bool} {l : List Cl} {j : Nat} {x : Cl} (hx : l[j]? = some x) : (l.take (j + 1)).any p = ((l.take j).any p || p x) := by
  obtain ⟨hk, e⟩ := List.getElem?_eq_some_iff.1 hx
  rw [List.take_succ_eq_append_getElem hk, e, List.any_append]
  simp
theorem idx_at {p : Cl → Bool} {l : List Cl} {j : Nat} {x : Cl} (hx : l[j]? = some x) (h : (l.take j).any p = false) (hp : p x = true) : idxM p l = (j : Int) := by
  obtain ⟨hk, e⟩ := List.getElem?_eq_some_iff.1 hx
  have ha : l.any p = true := List.any_eq_true.2 ⟨x, List.mem_of_getElem? hx, hp⟩
  have hf : l.findIdx p = j := by
    rw [List.findIdx_eq hk]
    refine ⟨by rw [e]; exact hp, fun i hi => ?_⟩
    have := List.any_eq_false.1 h (l[i]'(by omega)) (List.mem_of_getElem? (i := i) (by rw [List.getElem?_take, if_pos hi]; exact List.getElem?_eq_getElem _))
    simpa using this
  simp [idxM, ha, hf]
theorem idx_lt (p : Cl → Bool) (l : List Cl) : idxM p l < 0 ↔ l.any p = false := by
  unfold idxM
  cases h : l.any p <;> simp
set_option maxRecDepth 100000 in
set_option maxHeartbeats 1000000 in
theorem Index1 (k : FuncId) (p : Cl → Bool) (b : Nat) (z : Value) (hcall : ∀ args u, (callFunc k args).run Try.prog u = .ok (.enter k args) u)
    (hrun : ∀ u c, u.cell? ⟨b, 0, none⟩ = some z → Calls Try.prog k #[clV c, .pointer (some ⟨b, 0, none⟩)] u fun e u' => e = .returned (.bool (p c)) ∧ Below u.heap.size u u') (w : World) (hz : w.cell? ⟨b, 0, none⟩ = some z) (A : Option Addr) (n cp : Nat) (l : List Cl) (hl : IsC w A n l) :
    Calls Try.prog 86 #[.slice A n cp, .func (.func k) #[] #[.pointer (some ⟨b, 0, none⟩)]] w fun e w' => e = .returned (.int .i64 (idxM p l)) ∧ Below w.heap.size w w' := by
  have hn := hl.small
  have Hl := Lib.hid hl
  have Hrun := Lib.hid hrun
  have Hz := Lib.hid hz
  clear hz
  obtain ⟨Z, HZ⟩ : ∃ x, Hid (idxM p l = x) := ⟨_, Lib.hid rfl⟩
  rw [HZ.out]
  clear hl hrun
  go_enter Try.func86, Try.ntmps86
  go_wp2
  go_loopw [5, 8] (fun _ i wr => ∃ j : Nat, i = .int .i64 (j : Int) ∧ j ≤ n ∧ Hid ((l.take j).any p = false) ∧ Hid (Below w.heap.size w wr)) (fun _ i _ => n - (intOf i).toNat)
  case atStart => exact ⟨0, rfl, Nat.zero_le _, Lib.hid (by simp), Lib.hid (Below.refl _ _)⟩
  case round =>
    obtain ⟨j, rfl, hj, HQ, HB⟩ := hrel
    by_cases hlt : j < n
    · obtain ⟨x, hx⟩ : ∃ x, l[j]? = some x := ⟨_, List.getElem?_eq_getElem (by rw [Hl.out.length]; exact hlt)⟩
      obtain ⟨g, off, rfl, hg, hc⟩ := (Hl.out.below HB.out).cells (by omega)
      obtain ⟨c0, c1⟩ := hc j x hx
      have Hr := Lib.hid (Hrun.out wr x ((HB.out.cell (p := ⟨b, 0, none⟩) (lt_of_cell Hz.out)).trans Hz.out))
      have Hnx : Hid ((l.take (j + 1)).any p = ((l.take j).any p || p x)) := Lib.hid (take_any_step hx)
      have Hyes : Hid (p x = true → idxM p l = (j : Int)) := Lib.hid (fun e => idx_at hx HQ.out e)
      obtain ⟨b0, Hb⟩ : ∃ b, Hid (p x = b) := ⟨_, Lib.hid rfl⟩
      clear hc hx
      go_wp2_with fail
      refine Hr.out.mono ?_
      rw [Hb.out]
      rintro e w1 ⟨rfl, h1⟩
      have HB1 := Lib.hid (bnext HB.out h1)
      clear h1
      cases b0
      · go_wp2
        go_roundw
        case rel => exact ⟨j + 1, by go_num, by omega, Lib.hid (by rw [Hnx.out, HQ.out, Hb.out]; rfl), HB1⟩
        case measure => simp [intOf]; omega
      · go_wp2
        go_ret
        exact ⟨ret_int (by rw [← HZ.out, Hyes.out Hb.out]), HB1.out⟩
    · obtain rfl : j = n := by omega
      have HZ2 : Hid (Z = -1) := Lib.hid (by rw [← HZ.out]; refine idx_none ?_; have h := HQ.out; rw [List.take_of_length_le (by rw [Hl.out.length]; omega)] at h; exact h)
      go_wp2
      go_ret
      exact ⟨ret_int HZ2.out.symm, HB.out⟩
set_option maxRecDepth 100000 in
set_option maxHeartbeats 1000000 in
theorem Index0 (k : FuncId) (p : Cl → Bool) (hcall : ∀ args u, (callFunc k args).run Try.prog u = .ok (.enter k args) u)
    (hrun : ∀ u c, Calls Try.prog k #[clV c] u fun e u' => e = .returned (.bool (p c)) ∧ Below u.heap.size u u') (w : World) (A : Option Addr) (n cp : Nat) (l : List Cl) (hl : IsC w A n l) :
    Calls Try.prog 86 #[.slice A n cp, .func (.func k) #[] #[]] w fun e w' => e = .returned (.int .i64 (idxM p l)) ∧ Below w.heap.size w w' := by
  have hn := hl.small
  have Hl := Lib.hid hl
  have Hrun := Lib.hid hrun
  obtain ⟨Z, HZ⟩ : ∃ x, Hid (idxM p l = x) := ⟨_, Lib.hid rfl⟩
  rw [HZ.out]
  clear hl hrun
  go_enter Try.func86, Try.ntmps86
  go_wp2
  go_loopw [5, 8] (fun _ i wr => ∃ j : Nat, i = .int .i64 (j : Int) ∧ j ≤ n ∧ Hid ((l.take j).any p = false) ∧ Hid (Below w.heap.size w wr)) (fun _ i _ => n - (intOf i).toNat)
  case atStart => exact ⟨0, rfl, Nat.zero_le _, Lib.hid (by simp), Lib.hid (Below.refl _ _)⟩
  case round =>
    obtain ⟨j, rfl, hj, HQ, HB⟩ := hrel
    by_cases hlt : j < n
    · obtain ⟨x, hx⟩ : ∃ x, l[j]? = some x := ⟨_, List.getElem?_eq_getElem (by rw [Hl.out.length]; exact hlt)⟩
      obtain ⟨g, off, rfl, hg, hc⟩ := (Hl.out.below HB.out).cells (by omega)
      obtain ⟨c0, c1⟩ := hc j x hx
      have Hr := Lib.hid (Hrun.out wr x)
      have Hnx : Hid ((l.take (j + 1)).any p = ((l.take j).any p || p x)) := Lib.hid (take_any_step hx)
      have Hyes : Hid (p x = true → idxM p l = (j : Int)) := Lib.hid (fun e => idx_at hx HQ.out e)
      obtain ⟨b0, Hb⟩ : ∃ b, Hid (p x = b) := ⟨_, Lib.hid rfl⟩
      clear hc hx
      go_wp2_with fail
      refine Hr.out.mono ?_
      rw [Hb.out]
      rintro e w1 ⟨rfl, h1⟩
      have HB1 := Lib.hid (bnext HB.out h1)
      clear h1
      cases b0
      · go_wp2
        go_roundw
        case rel => exact ⟨j + 1, by go_num, by omega, Lib.hid (by rw [Hnx.out, HQ.out, Hb.out]; rfl), HB1⟩
        case measure => simp [intOf]; omega
      · go_wp2
        go_ret
        exact ⟨ret_int (by rw [← HZ.out, Hyes.out Hb.out]), HB1.out⟩
    · obtain rfl : j = n := by omega
      have HZ2 : Hid (Z = -1) := Lib.hid (by rw [← HZ.out]; refine idx_none ?_; have h := HQ.out; rw [List.take_of_length_le (by rw [Hl.out.length]; omega)] at h; exact h)
      go_wp2
      go_ret
      exact ⟨ret_int HZ2.out.symm, HB.out⟩
set_option maxRecDepth 100000 in
theorem Contains0 (k : FuncId) (p : Cl → Bool) (hcall : ∀ args u, (callFunc k args).run Try.prog u = .ok (.enter k args) u)
    (hrun : ∀ u c, Calls Try.prog k #[clV c] u fun e u' => e = .returned (.bool (p c)) ∧ Below u.heap.size u u') (w : World) (A : Option Addr) (n cp : Nat) (l : List Cl) (hl : IsC w A n l) :
    Calls Try.prog 90 #[.slice A n cp, .func (.func k) #[] #[]] w fun e w' => e = .returned (.bool (l.any p)) ∧ Below w.heap.size w w' := by
  have H := Lib.hid (Index0 k p  hcall hrun w  A n cp l hl)
  have Hi := Lib.hid (idx_lt p l)
  obtain ⟨b0, Hb⟩ : ∃ b, Hid (l.any p = b) := ⟨_, Lib.hid rfl⟩
  obtain ⟨Z, HZ⟩ : ∃ x, Hid (idxM p l = x) := ⟨_, Lib.hid rfl⟩
  rw [HZ.out] at H Hi
  rw [Hb.out] at Hi
  rw [Hb.out]
  clear hl hrun
  go_enter Try.func90, Try.ntmps90
  go_wp2_with fail
  refine H.out.mono ?_
  rintro e w1 ⟨rfl, h1⟩
  have H1 := Lib.hid h1
  clear h1
  go_wp2
  go_ret
  refine ⟨ret_bool ?_, H1.out⟩
  have := Hi.out
  cases b0
  · simpa using this
  · have h2 : ¬ Z < 0 := fun h => by simp [h] at this
    simp; omega
end Go.Proofs.Ythpmodohfjjjcaa
