/- The document's names, at this translation. -/
import Derived.Test.YtnoidhfhnaemgaaDoorNm15
namespace Go.Proofs.YtnoidhfhnaemgaaDoor
open Go.RowKit

set_option maxRecDepth 100000 in
set_option maxHeartbeats 4000000 in
theorem XName_any (l : List UInt8) (w : World) :
    Calls Tryd.prog 16 #[.string (str l)] w fun e w' => e = .returned (.bool (nameB l)) ∧ Below w.heap.size w w' := by
  obtain ⟨R, HR⟩ : ∃ b, Hid (nameB l = b) := ⟨_, Lib.hid rfl⟩
  rw [HR.out]
  go_enter Tryd.func16, Tryd.ntmps16
  by_cases h0 : l = []
  · obtain rfl : false = R := by rw [← HR.out, name_no (.inl (by rw [h0]; rfl))]
    subst h0
    go_wp2
    go_ret
    exact ⟨rfl, Below.refl _ _⟩
  by_cases h1 : 30 < l.length
  · obtain rfl : false = R := by rw [← HR.out, name_no (.inr (.inl h1))]
    have hl : (30 : Int) < (l.length : Int) := by omega
    have hl1 : ¬ (l.length : Int) < 1 := by omega
    go_wp2
    go_ret
    exact ⟨rfl, Below.refl _ _⟩
  by_cases h2 : l = [46]
  · obtain rfl : false = R := by rw [← HR.out, name_no (.inr (.inr (.inl h2)))]
    subst h2
    go_wp2
    go_ret
    exact ⟨rfl, Below.refl _ _⟩
  by_cases h3 : l = [46, 46]
  · obtain rfl : false = R := by rw [← HR.out, name_no (.inr (.inr (.inr h3)))]
    subst h3
    go_wp2
    go_ret
    exact ⟨rfl, Below.refl _ _⟩
  have hl : ¬ (30 : Int) < (l.length : Int) := by omega
  have hl1 : ¬ (l.length : Int) < 1 := by
    rcases l with _ | ⟨a, t⟩
    · exact absurd rfl h0
    · simp; omega
  have hq1 : (l == [46]) = false := by simp [h2]
  have hq2 : (l == [46, 46]) = false := by simp [h3]
  have HA : Hid ((l.all fun c => chB c.toNat) = R) := Lib.hid ((name_yes h0 h1 h2 h3).symm.trans HR.out)
  have HL : Hid (l.length ≤ 30) := Lib.hid (by omega)
  clear h0 h1 h2 h3
  go_wp2
  clear hl hl1 hq1 hq2
  go_loopw [3] (fun r wr => ∃ pos : Nat, pos ≤ l.length ∧ r = .int .i64 (pos : Int) ∧ Hid (Below w.heap.size w wr) ∧ Hid (∀ c ∈ l.take pos, chB c.toNat = true)) (fun r _ => l.length - (intOf r).toNat)
  case atStart => exact ⟨0, by omega, rfl, Lib.hid (Below.refl _ _), Lib.hid (by simp)⟩
  case round =>
    obtain ⟨pos, hpos, rfl, HB, HP⟩ := hrel
    by_cases hp : pos < l.length
    · have hpI : (pos : Int) < (l.length : Int) := by omega
      have hll := HL.out
      obtain ⟨x, Hx⟩ : ∃ x, Hid (l[pos]'hp = x) := ⟨_, Lib.hid rfl⟩
      have hx := Hx.out
      obtain ⟨C, HCx⟩ : ∃ C, Hid (x.toNat = C) := ⟨_, Lib.hid rfl⟩
      have hCx := HCx.out
      have hCl : C < 256 := by rw [← hCx]; exact x.toNat_lt
      have hcs : (97 ≤ C ∧ C ≤ 122) ∨ (65 ≤ C ∧ C ≤ 90) ∨ (48 ≤ C ∧ C ≤ 57) ∨ (C = 46) ∨ (C = 45) ∨ (C = 95) ∨ (0 ≤ C ∧ C ≤ 44) ∨ (C = 47) ∨ (58 ≤ C ∧ C ≤ 64) ∨ (91 ≤ C ∧ C ≤ 94) ∨ (C = 96) ∨ (123 ≤ C) := by omega
      rcases hcs with hc | hc | hc | hc | hc | hc | hc | hc | hc | hc | hc | hc
      · have f0 : (97 : Int) ≤ (C : Int) := by omega
        have f1 : (C : Int) ≤ 122 := by omega
        have f2 : (65 : Int) ≤ (C : Int) := by omega
        have f3 : ¬ (C : Int) ≤ 90 := by omega
        have f4 : (48 : Int) ≤ (C : Int) := by omega
        have f5 : ¬ (C : Int) ≤ 57 := by omega
        have e0 : ((C : Int) == 46) = false := by simp; omega
        have e1 : ((C : Int) == 45) = false := by simp; omega
        have e2 : ((C : Int) == 95) = false := by simp; omega
        have hch : chB C = true := by unfold chB; simp; omega
        have HP2 : Hid (∀ c ∈ l.take (pos + 1), chB c.toNat = true) := Lib.hid (all_step hp HP.out (by rw [Hx.out, HCx.out]; exact hch))
        clear hch
        go_wp2
        go_roundw
        case rel => exact ⟨pos + 1, by omega, by go_num, HB, HP2⟩
        case measure => simp [intOf]; omega
      · have f0 : ¬ (97 : Int) ≤ (C : Int) := by omega
        have f1 : (C : Int) ≤ 122 := by omega
        have f2 : (65 : Int) ≤ (C : Int) := by omega
        have f3 : (C : Int) ≤ 90 := by omega
        have f4 : (48 : Int) ≤ (C : Int) := by omega
        have f5 : ¬ (C : Int) ≤ 57 := by omega
        have e0 : ((C : Int) == 46) = false := by simp; omega
        have e1 : ((C : Int) == 45) = false := by simp; omega
        have e2 : ((C : Int) == 95) = false := by simp; omega
        have hch : chB C = true := by unfold chB; simp; omega
        have HP2 : Hid (∀ c ∈ l.take (pos + 1), chB c.toNat = true) := Lib.hid (all_step hp HP.out (by rw [Hx.out, HCx.out]; exact hch))
        clear hch
        go_wp2
        go_roundw
        case rel => exact ⟨pos + 1, by omega, by go_num, HB, HP2⟩
        case measure => simp [intOf]; omega
      · have f0 : ¬ (97 : Int) ≤ (C : Int) := by omega
        have f1 : (C : Int) ≤ 122 := by omega
        have f2 : ¬ (65 : Int) ≤ (C : Int) := by omega
        have f3 : (C : Int) ≤ 90 := by omega
        have f4 : (48 : Int) ≤ (C : Int) := by omega
        have f5 : (C : Int) ≤ 57 := by omega
        have e0 : ((C : Int) == 46) = false := by simp; omega
        have e1 : ((C : Int) == 45) = false := by simp; omega
        have e2 : ((C : Int) == 95) = false := by simp; omega
        have hch : chB C = true := by unfold chB; simp; omega
        have HP2 : Hid (∀ c ∈ l.take (pos + 1), chB c.toNat = true) := Lib.hid (all_step hp HP.out (by rw [Hx.out, HCx.out]; exact hch))
        clear hch
        go_wp2
        go_roundw
        case rel => exact ⟨pos + 1, by omega, by go_num, HB, HP2⟩
        case measure => simp [intOf]; omega
      · have f0 : ¬ (97 : Int) ≤ (C : Int) := by omega
        have f1 : (C : Int) ≤ 122 := by omega
        have f2 : ¬ (65 : Int) ≤ (C : Int) := by omega
        have f3 : (C : Int) ≤ 90 := by omega
        have f4 : ¬ (48 : Int) ≤ (C : Int) := by omega
        have f5 : (C : Int) ≤ 57 := by omega
        have e0 : ((C : Int) == 46) = true := by simp; omega
        have e1 : ((C : Int) == 45) = false := by simp; omega
        have e2 : ((C : Int) == 95) = false := by simp; omega
        have hch : chB C = true := by unfold chB; simp; omega
        have HP2 : Hid (∀ c ∈ l.take (pos + 1), chB c.toNat = true) := Lib.hid (all_step hp HP.out (by rw [Hx.out, HCx.out]; exact hch))
        clear hch
        go_wp2
        go_roundw
        case rel => exact ⟨pos + 1, by omega, by go_num, HB, HP2⟩
        case measure => simp [intOf]; omega
      · have f0 : ¬ (97 : Int) ≤ (C : Int) := by omega
        have f1 : (C : Int) ≤ 122 := by omega
        have f2 : ¬ (65 : Int) ≤ (C : Int) := by omega
        have f3 : (C : Int) ≤ 90 := by omega
        have f4 : ¬ (48 : Int) ≤ (C : Int) := by omega
        have f5 : (C : Int) ≤ 57 := by omega
        have e0 : ((C : Int) == 46) = false := by simp; omega
        have e1 : ((C : Int) == 45) = true := by simp; omega
        have e2 : ((C : Int) == 95) = false := by simp; omega
        have hch : chB C = true := by unfold chB; simp; omega
        have HP2 : Hid (∀ c ∈ l.take (pos + 1), chB c.toNat = true) := Lib.hid (all_step hp HP.out (by rw [Hx.out, HCx.out]; exact hch))
        clear hch
        go_wp2
        go_roundw
        case rel => exact ⟨pos + 1, by omega, by go_num, HB, HP2⟩
        case measure => simp [intOf]; omega
      · have f0 : ¬ (97 : Int) ≤ (C : Int) := by omega
        have f1 : (C : Int) ≤ 122 := by omega
        have f2 : (65 : Int) ≤ (C : Int) := by omega
        have f3 : ¬ (C : Int) ≤ 90 := by omega
        have f4 : (48 : Int) ≤ (C : Int) := by omega
        have f5 : ¬ (C : Int) ≤ 57 := by omega
        have e0 : ((C : Int) == 46) = false := by simp; omega
        have e1 : ((C : Int) == 45) = false := by simp; omega
        have e2 : ((C : Int) == 95) = true := by simp; omega
        have hch : chB C = true := by unfold chB; simp; omega
        have HP2 : Hid (∀ c ∈ l.take (pos + 1), chB c.toNat = true) := Lib.hid (all_step hp HP.out (by rw [Hx.out, HCx.out]; exact hch))
        clear hch
        go_wp2
        go_roundw
        case rel => exact ⟨pos + 1, by omega, by go_num, HB, HP2⟩
        case measure => simp [intOf]; omega
      · have f0 : ¬ (97 : Int) ≤ (C : Int) := by omega
        have f1 : (C : Int) ≤ 122 := by omega
        have f2 : ¬ (65 : Int) ≤ (C : Int) := by omega
        have f3 : (C : Int) ≤ 90 := by omega
        have f4 : ¬ (48 : Int) ≤ (C : Int) := by omega
        have f5 : (C : Int) ≤ 57 := by omega
        have e0 : ((C : Int) == 46) = false := by simp; omega
        have e1 : ((C : Int) == 45) = false := by simp; omega
        have e2 : ((C : Int) == 95) = false := by simp; omega
        have hch : chB C = false := by unfold chB; simp; omega
        obtain rfl : false = R := by
          rw [← HA.out, eq_comm, List.all_eq_false]
          exact ⟨x, by rw [← Hx.out]; exact List.getElem_mem _, by rw [HCx.out, hch]; decide⟩
        clear hch
        go_wp2
        go_ret
        exact ⟨rfl, HB.out⟩
      · have f0 : ¬ (97 : Int) ≤ (C : Int) := by omega
        have f1 : (C : Int) ≤ 122 := by omega
        have f2 : ¬ (65 : Int) ≤ (C : Int) := by omega
        have f3 : (C : Int) ≤ 90 := by omega
        have f4 : ¬ (48 : Int) ≤ (C : Int) := by omega
        have f5 : (C : Int) ≤ 57 := by omega
        have e0 : ((C : Int) == 46) = false := by simp; omega
        have e1 : ((C : Int) == 45) = false := by simp; omega
        have e2 : ((C : Int) == 95) = false := by simp; omega
        have hch : chB C = false := by unfold chB; simp; omega
        obtain rfl : false = R := by
          rw [← HA.out, eq_comm, List.all_eq_false]
          exact ⟨x, by rw [← Hx.out]; exact List.getElem_mem _, by rw [HCx.out, hch]; decide⟩
        clear hch
        go_wp2
        go_ret
        exact ⟨rfl, HB.out⟩
      · have f0 : ¬ (97 : Int) ≤ (C : Int) := by omega
        have f1 : (C : Int) ≤ 122 := by omega
        have f2 : ¬ (65 : Int) ≤ (C : Int) := by omega
        have f3 : (C : Int) ≤ 90 := by omega
        have f4 : (48 : Int) ≤ (C : Int) := by omega
        have f5 : ¬ (C : Int) ≤ 57 := by omega
        have e0 : ((C : Int) == 46) = false := by simp; omega
        have e1 : ((C : Int) == 45) = false := by simp; omega
        have e2 : ((C : Int) == 95) = false := by simp; omega
        have hch : chB C = false := by unfold chB; simp; omega
        obtain rfl : false = R := by
          rw [← HA.out, eq_comm, List.all_eq_false]
          exact ⟨x, by rw [← Hx.out]; exact List.getElem_mem _, by rw [HCx.out, hch]; decide⟩
        clear hch
        go_wp2
        go_ret
        exact ⟨rfl, HB.out⟩
      · have f0 : ¬ (97 : Int) ≤ (C : Int) := by omega
        have f1 : (C : Int) ≤ 122 := by omega
        have f2 : (65 : Int) ≤ (C : Int) := by omega
        have f3 : ¬ (C : Int) ≤ 90 := by omega
        have f4 : (48 : Int) ≤ (C : Int) := by omega
        have f5 : ¬ (C : Int) ≤ 57 := by omega
        have e0 : ((C : Int) == 46) = false := by simp; omega
        have e1 : ((C : Int) == 45) = false := by simp; omega
        have e2 : ((C : Int) == 95) = false := by simp; omega
        have hch : chB C = false := by unfold chB; simp; omega
        obtain rfl : false = R := by
          rw [← HA.out, eq_comm, List.all_eq_false]
          exact ⟨x, by rw [← Hx.out]; exact List.getElem_mem _, by rw [HCx.out, hch]; decide⟩
        clear hch
        go_wp2
        go_ret
        exact ⟨rfl, HB.out⟩
      · have f0 : ¬ (97 : Int) ≤ (C : Int) := by omega
        have f1 : (C : Int) ≤ 122 := by omega
        have f2 : (65 : Int) ≤ (C : Int) := by omega
        have f3 : ¬ (C : Int) ≤ 90 := by omega
        have f4 : (48 : Int) ≤ (C : Int) := by omega
        have f5 : ¬ (C : Int) ≤ 57 := by omega
        have e0 : ((C : Int) == 46) = false := by simp; omega
        have e1 : ((C : Int) == 45) = false := by simp; omega
        have e2 : ((C : Int) == 95) = false := by simp; omega
        have hch : chB C = false := by unfold chB; simp; omega
        obtain rfl : false = R := by
          rw [← HA.out, eq_comm, List.all_eq_false]
          exact ⟨x, by rw [← Hx.out]; exact List.getElem_mem _, by rw [HCx.out, hch]; decide⟩
        clear hch
        go_wp2
        go_ret
        exact ⟨rfl, HB.out⟩
      · have f0 : (97 : Int) ≤ (C : Int) := by omega
        have f1 : ¬ (C : Int) ≤ 122 := by omega
        have f2 : (65 : Int) ≤ (C : Int) := by omega
        have f3 : ¬ (C : Int) ≤ 90 := by omega
        have f4 : (48 : Int) ≤ (C : Int) := by omega
        have f5 : ¬ (C : Int) ≤ 57 := by omega
        have e0 : ((C : Int) == 46) = false := by simp; omega
        have e1 : ((C : Int) == 45) = false := by simp; omega
        have e2 : ((C : Int) == 95) = false := by simp; omega
        have hch : chB C = false := by unfold chB; simp; omega
        obtain rfl : false = R := by
          rw [← HA.out, eq_comm, List.all_eq_false]
          exact ⟨x, by rw [← Hx.out]; exact List.getElem_mem _, by rw [HCx.out, hch]; decide⟩
        clear hch
        go_wp2
        go_ret
        exact ⟨rfl, HB.out⟩
    · have hpI : ¬ (pos : Int) < (l.length : Int) := by omega
      obtain rfl : true = R := by
        rw [← HA.out, eq_comm, List.all_eq_true]
        have h := HP.out
        rwa [List.take_of_length_le (by omega)] at h
      go_wp2
      go_ret
      exact ⟨rfl, HB.out⟩
end Go.Proofs.YtnoidhfhnaemgaaDoor
