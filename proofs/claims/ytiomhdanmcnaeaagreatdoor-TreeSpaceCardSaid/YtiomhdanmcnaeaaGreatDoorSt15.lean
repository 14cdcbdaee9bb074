/- Rows of texts; the first of them that is no name, at this translation. -/
import Derived.Test.YtiomhdanmcnaeaaGreatDoorXn15
import Derived.Test.YtiomhdanmcnaeaaGreatDoorPt15
import Derived.Test.YtiomhdanmcnaeaaGreatDoorGs11
import Derived.Test.YtiomhdanmcnaeaaGreatDoorMix
import Derived.Test.YtiomhdanmcnaeaaGreatDoorShelf
namespace Go.Proofs.YtiomhdanmcnaeaaGreatDoor
open Go.RowKit

def encT (s : List UInt8) : List Value := [.string (str s)]
theorem encT_ok : Enc 1 encT := ⟨fun _ => rfl, by intro a u hu; simp [encT] at hu; subst hu; rfl, by decide⟩
theorem tInfo0 : (Tryz.prog.info? 9).map (fun i => (i.zero, i.size, i.bytes)) = some (some (.string ByteArray.empty), 1, 16) := by kernel_rfl
theorem tInf : Inf 27 9 1 16 := ⟨Tryz.underlying27, by
  have h := tInfo0
  cases hq : Tryz.prog.info? 9 with
  | none => rw [hq] at h; cases h
  | some i0 =>
    rw [hq] at h
    simp only [Option.map_some, Option.some.injEq, Prod.mk.injEq] at h
    exact ⟨i0, _, rfl, h.1, h.2.1, h.2.2, rfl⟩⟩
theorem t_one (w : World) (z : List UInt8) (ty : TypeId) : IsG (w.alloc (.cells #[.string (str z)] ty)) 1 encT (some ⟨w.heap.size, 0, none⟩) 1 [z] :=
  IsG.one (by simp) (fun j u hu => by
    rw [World.cell?_alloc_at _ _ _ _ rfl]
    match j, hu with
    | 0, hu => simpa [encT] using hu
    | j + 1, hu => simp [encT] at hu)
theorem IsG.txt {w : World} {A : Option Addr} {n : Nat} {l : List (List UInt8)} (h : IsG w 1 encT A n l) {i : Nat} {z : List UInt8} (hi : l[i]? = some z) :
    ∃ g off, A = some ⟨g, off, none⟩ ∧ w.cell? ⟨g, off + i, none⟩ = some (.string (str z)) := by
  have hil := (List.getElem?_eq_some_iff.1 hi).1
  obtain ⟨g, off, e, hg, hc⟩ := h.cells (by rw [← h.length]; omega)
  have c := hc i z 0 _ hi rfl
  rw [Nat.mul_one, Nat.add_zero] at c
  exact ⟨g, off, e, c⟩
set_option maxRecDepth 100000 in
set_option maxHeartbeats 1000000 in
theorem notName_any (l : List UInt8) (w : World) :
    Calls Tryz.prog 91 #[.string (str l)] w fun e w' => e = .returned (.bool (!nameB l)) ∧ Below w.heap.size w w' := by
  obtain ⟨R, HR⟩ : ∃ b, Hid (nameB l = b) := ⟨_, Lib.hid rfl⟩
  rw [HR.out]
  go_enter Tryz.func91, Tryz.ntmps91
  go_wp2_with fail
  refine (Name_any l _).mono ?_
  rw [HR.out]
  rintro e w1 ⟨rfl, hb⟩
  go_wp2
  go_ret
  exact ⟨rfl, hb⟩
set_option maxRecDepth 100000 in
set_option maxHeartbeats 4000000 in
theorem FindT_any (w : World) (A : Option Addr) (n c : Nat) (l : List (List UInt8)) (hl : IsG w 1 encT A n l) :
    Calls Tryz.prog 93 #[.slice A n c, .func (.func 91) #[] #[]] w fun e w' => ∃ z : Nat, e = .returned (.int .i64 z) ∧ decide ((z : Int) < (n : Int)) = !(l.all nameB) ∧ Below w.heap.size w w' := by
  have hn := hl.small
  have Hl := Lib.hid hl
  clear hl
  go_enter Tryz.func93, Tryz.ntmps93
  go_wp2
  go_loopw [9] (fun i wr => ∃ j : Nat, i = .int .i64 (j : Int) ∧ j ≤ n ∧ Hid (∀ s ∈ l.take j, nameB s = true) ∧ Hid (Below w.heap.size w wr)) (fun i _ => n - (intOf i).toNat)
  case atStart => exact ⟨0, rfl, Nat.zero_le _, Lib.hid (by simp), Lib.hid (Below.refl _ _)⟩
  case round =>
    obtain ⟨j, rfl, hj, HQ, HI⟩ := hrel
    by_cases hlt : j < n
    · have hlt2 : j < l.length := by rw [Hl.out.length]; exact hlt
      have hltI : (j : Int) < (n : Int) := by omega
      obtain ⟨x, Hx⟩ : ∃ x, Hid (l[j]'hlt2 = x) := ⟨_, Lib.hid rfl⟩
      obtain ⟨g, off, rfl, c0⟩ := (Hl.out.below HI.out).txt (i := j) (z := x) (by rw [List.getElem?_eq_getElem hlt2, Hx.out])
      obtain ⟨b, Hb⟩ : ∃ b, Hid (nameB x = b) := ⟨_, Lib.hid rfl⟩
      have Hno : Hid (b = false → l.all nameB = false) := Lib.hid (fun e => by
        rw [List.all_eq_false]
        exact ⟨x, by rw [← Hx.out]; exact List.getElem_mem _, by rw [Hb.out, e]; decide⟩)
      have Hyes : Hid (b = true → ∀ s ∈ l.take (j + 1), nameB s = true) := Lib.hid (fun e s hs => by
        rw [List.take_succ_eq_append_getElem hlt2] at hs
        rcases List.mem_append.1 hs with hs | hs
        · exact HQ.out s hs
        · rw [Hx.out] at hs; simp at hs; subst hs; rw [Hb.out, e])
      clear Hx hlt2
      go_wp2_with fail
      refine (notName_any x _).mono ?_
      rw [Hb.out]
      rintro e w1 ⟨rfl, hb⟩
      have HI1 := Lib.hid (bnext HI.out hb)
      clear hb
      cases b
      · go_wp2
        go_ret
        exact ⟨j, rfl, by rw [Hno.out (by first | rfl | trivial)]; simp; omega, HI1.out⟩
      · go_wp2
        go_roundw
        case rel => exact ⟨j + 1, by go_num, by omega, Lib.hid (Hyes.out (by first | rfl | trivial)), HI1⟩
        case measure => simp [intOf]; omega
    · obtain rfl : j = n := by omega
      have hall : l.all nameB = true := by
        rw [List.all_eq_true]
        have h := HQ.out
        rwa [List.take_of_length_le (by rw [Hl.out.length]; omega)] at h
      go_wp2
      go_ret
      exact ⟨j, rfl, by rw [hall]; simp, HI.out⟩
end Go.Proofs.YtiomhdanmcnaeaaGreatDoor
