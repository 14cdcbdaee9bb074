/- Names, at this translation. -/
import Derived.Test.YtiomhdanmcnaeaaGreatDoorZn15
import Derived.Laws.RangeAny
import Derived.Laws.RangeString
namespace Go.Proofs.YtiomhdanmcnaeaaGreatDoor
open Go.RowKit

theorem name_no {l : List UInt8} (h : l.length = 0 ∨ 30 < l.length ∨ l = [46] ∨ l = [46, 46]) : nameB l = false := by
  unfold nameB
  rcases h with h | h | h | h
  · simp [h]
  · simp [show ¬ l.length ≤ 30 by omega]
  · subst h; rfl
  · subst h; rfl
theorem name_yes {l : List UInt8} (h0 : l ≠ []) (h1 : ¬ 30 < l.length) (h2 : l ≠ [46]) (h3 : l ≠ [46, 46]) : nameB l = l.all fun c => chB c.toNat := by
  unfold nameB
  have h : 1 ≤ l.length := by
    rcases l with _ | ⟨a, t⟩
    · exact absurd rfl h0
    · simp
  simp [h, h2, h3, show l.length ≤ 30 by omega]
theorem all_step {l : List UInt8} {k : Nat} (hk : k < l.length) (h : ∀ c ∈ l.take k, chB c.toNat = true) (hc : chB (l[k]).toNat = true) : ∀ c ∈ l.take (k + 1), chB c.toNat = true := by
  intro c hm
  rw [List.take_succ_eq_append_getElem hk] at hm
  rcases List.mem_append.1 hm with hm | hm
  · exact h c hm
  · simp at hm; subst hm; exact hc
set_option maxRecDepth 100000 in
set_option maxHeartbeats 4000000 in
theorem Name_any (l : List UInt8) (w : World) :
    Calls Tryz.prog 92 #[.string (str l)] w fun e w' => e = .returned (.bool (nameB l)) ∧ Below w.heap.size w w' := by
  obtain ⟨R, HR⟩ : ∃ b, Hid (nameB l = b) := ⟨_, Lib.hid rfl⟩
  rw [HR.out]
  go_enter Tryz.func92, Tryz.ntmps92
  by_cases h0 : l = []
  · obtain rfl : false = R := by rw [← HR.out, name_no (.inl (by rw [h0]; rfl))]
    subst h0
    go_wp2
    go_step3
    go_wp2
    rw [Exit.noGoto_ret]
    go_ret
    exact ⟨rfl, Below.refl _ _⟩
  by_cases h1 : 30 < l.length
  · obtain rfl : false = R := by rw [← HR.out, name_no (.inr (.inl h1))]
    have hl : (30 : Int) < (l.length : Int) := by omega
    have hq : (l == []) = false := by simp [h0]
    go_wp2
    go_step3
    go_wp2
    rw [Exit.noGoto_ret]
    go_ret
    exact ⟨rfl, Below.refl _ _⟩
  by_cases h2 : l = [46]
  · obtain rfl : false = R := by rw [← HR.out, name_no (.inr (.inr (.inl h2)))]
    subst h2
    go_wp2
    go_step3
    go_wp2
    rw [Exit.noGoto_ret]
    go_ret
    exact ⟨rfl, Below.refl _ _⟩
  by_cases h3 : l = [46, 46]
  · obtain rfl : false = R := by rw [← HR.out, name_no (.inr (.inr (.inr h3)))]
    subst h3
    go_wp2
    go_step3
    go_wp2
    rw [Exit.noGoto_ret]
    go_ret
    exact ⟨rfl, Below.refl _ _⟩
  have hl : ¬ (30 : Int) < (l.length : Int) := by omega
  have hq : (l == []) = false := by simp [h0]
  have hq1 : (l == [46]) = false := by simp [h2]
  have hq2 : (l == [46, 46]) = false := by simp [h3]
  have HA : Hid ((l.all fun c => chB c.toNat) = R) := Lib.hid ((name_yes h0 h1 h2 h3).symm.trans HR.out)
  clear h0 h1 h2 h3
  go_wp2
  go_step3
  go_wp2
  go_step3
  clear hl hq hq1 hq2
  go_wp2
  go_loopw [3] (fun r wr => ∃ pos : Nat, pos ≤ l.length ∧ wr = w.iter (str l) pos ∧ r = .bool true ∧ Hid (∀ c ∈ l.take pos, chB c.toNat = true)) (fun _ wr => l.length - wr.iterPos w.heap.size)
  case atStart => exact ⟨0, by omega, rfl, rfl, Lib.hid (by simp)⟩
  case round =>
    obtain ⟨pos, hpos, rfl, rfl, HP⟩ := hrel
    by_cases hp : pos < l.length
    · have hps : pos < (str l).size := by rw [str_size]; exact hp
      obtain ⟨C, D, HD⟩ : ∃ C D, Hid (Utf8.decode (str l) pos = (C, D)) := ⟨_, _, Lib.hid rfl⟩
      obtain ⟨x, Hx⟩ : ∃ x, Hid (l[pos]'hp = x) := ⟨_, Lib.hid rfl⟩
      have HC : Hid (chB x.toNat = chB C ∧ (chB C = true → D = 1)) := Lib.hid (by
        have hg : ((str l)[pos]'hps) = x := (str_get l pos hps).trans Hx.out
        by_cases ha : ((str l)[pos]'hps).toNat < 128
        · have h := decode_ascii (str l) pos hps ha
          rw [HD.out, hg] at h
          injection h with h1 h2
          exact ⟨by rw [h1], fun _ => h2⟩
        · have h := decode_high (str l) pos hps (by omega)
          rw [HD.out] at h
          rw [hg] at ha
          have h1 : 128 ≤ C := h.1
          have h2 : 128 ≤ x.toNat := by omega
          exact ⟨by rw [chB_high h2, chB_high h1], fun h2 => by rw [chB_high h1] at h2; cases h2⟩)
      have hnx : ∀ ty, (Instr.next (.pointer (some ⟨w.heap.size, 0, none⟩)) true ty).run Tryz.prog (w.iter (str l) pos) = _ := fun ty => run_next_any w (str l) pos ty hps
      rw [HD.out] at hnx
      have HB : Hid (∀ q, Below w.heap.size w (w.iter (str l) q)) := Lib.hid (fun q => balloc (Below.refl _ w) _)
      clear hps
      have hcs : (97 ≤ C ∧ C ≤ 122) ∨ (65 ≤ C ∧ C ≤ 90) ∨ (48 ≤ C ∧ C ≤ 57) ∨ (C = 46) ∨ (C = 45) ∨ (C = 95) ∨ (0 ≤ C ∧ C ≤ 44) ∨ (C = 47) ∨ (58 ≤ C ∧ C ≤ 64) ∨ (91 ≤ C ∧ C ≤ 94) ∨ (C = 96) ∨ (123 ≤ C) := by omega
      rcases hcs with hc | hc | hc | hc | hc | hc | hc | hc | hc | hc | hc | hc
      · have f0 : (97 : Int) ≤ (C : Int) := by omega
        have f1 : (C : Int) ≤ 122 := by omega
        have f2 : (65 : Int) ≤ (C : Int) := by omega
        have f3 : ¬ (C : Int) ≤ 90 := by omega
        have f4 : (48 : Int) ≤ (C : Int) := by omega
        have f5 : ¬ (C : Int) ≤ 57 := by omega
        have e0 : ((C : Int) == 46) = false := by simp; omega
        have e1 : ((C : Int) == 45) = false := by simp; omega
        have e2 : ((C : Int) == 95) = false := by simp; omega
        have hch : chB C = true := by unfold chB; simp; omega
        have HP2 : Hid (∀ c ∈ l.take (pos + 1), chB c.toNat = true) := Lib.hid (all_step hp HP.out (by rw [Hx.out, HC.out.1]; exact hch))
        obtain rfl : D = 1 := HC.out.2 hch
        clear hch
        go_wp2
        go_roundw
        case rel => exact ⟨pos + 1, by omega, rfl, rfl, HP2⟩
        case measure => simp; omega
      · have f0 : ¬ (97 : Int) ≤ (C : Int) := by omega
        have f1 : (C : Int) ≤ 122 := by omega
        have f2 : (65 : Int) ≤ (C : Int) := by omega
        have f3 : (C : Int) ≤ 90 := by omega
        have f4 : (48 : Int) ≤ (C : Int) := by omega
        have f5 : ¬ (C : Int) ≤ 57 := by omega
        have e0 : ((C : Int) == 46) = false := by simp; omega
        have e1 : ((C : Int) == 45) = false := by simp; omega
        have e2 : ((C : Int) == 95) = false := by simp; omega
        have hch : chB C = true := by unfold chB; simp; omega
        have HP2 : Hid (∀ c ∈ l.take (pos + 1), chB c.toNat = true) := Lib.hid (all_step hp HP.out (by rw [Hx.out, HC.out.1]; exact hch))
        obtain rfl : D = 1 := HC.out.2 hch
        clear hch
        go_wp2
        go_roundw
        case rel => exact ⟨pos + 1, by omega, rfl, rfl, HP2⟩
        case measure => simp; omega
      · have f0 : ¬ (97 : Int) ≤ (C : Int) := by omega
        have f1 : (C : Int) ≤ 122 := by omega
        have f2 : ¬ (65 : Int) ≤ (C : Int) := by omega
        have f3 : (C : Int) ≤ 90 := by omega
        have f4 : (48 : Int) ≤ (C : Int) := by omega
        have f5 : (C : Int) ≤ 57 := by omega
        have e0 : ((C : Int) == 46) = false := by simp; omega
        have e1 : ((C : Int) == 45) = false := by simp; omega
        have e2 : ((C : Int) == 95) = false := by simp; omega
        have hch : chB C = true := by unfold chB; simp; omega
        have HP2 : Hid (∀ c ∈ l.take (pos + 1), chB c.toNat = true) := Lib.hid (all_step hp HP.out (by rw [Hx.out, HC.out.1]; exact hch))
        obtain rfl : D = 1 := HC.out.2 hch
        clear hch
        go_wp2
        go_roundw
        case rel => exact ⟨pos + 1, by omega, rfl, rfl, HP2⟩
        case measure => simp; omega
      · have f0 : ¬ (97 : Int) ≤ (C : Int) := by omega
        have f1 : (C : Int) ≤ 122 := by omega
        have f2 : ¬ (65 : Int) ≤ (C : Int) := by omega
        have f3 : (C : Int) ≤ 90 := by omega
        have f4 : ¬ (48 : Int) ≤ (C : Int) := by omega
        have f5 : (C : Int) ≤ 57 := by omega
        have e0 : ((C : Int) == 46) = true := by simp; omega
        have e1 : ((C : Int) == 45) = false := by simp; omega
        have e2 : ((C : Int) == 95) = false := by simp; omega
        have hch : chB C = true := by unfold chB; simp; omega
        have HP2 : Hid (∀ c ∈ l.take (pos + 1), chB c.toNat = true) := Lib.hid (all_step hp HP.out (by rw [Hx.out, HC.out.1]; exact hch))
        obtain rfl : D = 1 := HC.out.2 hch
        clear hch
        go_wp2
        go_roundw
        case rel => exact ⟨pos + 1, by omega, rfl, rfl, HP2⟩
        case measure => simp; omega
      · have f0 : ¬ (97 : Int) ≤ (C : Int) := by omega
        have f1 : (C : Int) ≤ 122 := by omega
        have f2 : ¬ (65 : Int) ≤ (C : Int) := by omega
        have f3 : (C : Int) ≤ 90 := by omega
        have f4 : ¬ (48 : Int) ≤ (C : Int) := by omega
        have f5 : (C : Int) ≤ 57 := by omega
        have e0 : ((C : Int) == 46) = false := by simp; omega
        have e1 : ((C : Int) == 45) = true := by simp; omega
        have e2 : ((C : Int) == 95) = false := by simp; omega
        have hch : chB C = true := by unfold chB; simp; omega
        have HP2 : Hid (∀ c ∈ l.take (pos + 1), chB c.toNat = true) := Lib.hid (all_step hp HP.out (by rw [Hx.out, HC.out.1]; exact hch))
        obtain rfl : D = 1 := HC.out.2 hch
        clear hch
        go_wp2
        go_roundw
        case rel => exact ⟨pos + 1, by omega, rfl, rfl, HP2⟩
        case measure => simp; omega
      · have f0 : ¬ (97 : Int) ≤ (C : Int) := by omega
        have f1 : (C : Int) ≤ 122 := by omega
        have f2 : (65 : Int) ≤ (C : Int) := by omega
        have f3 : ¬ (C : Int) ≤ 90 := by omega
        have f4 : (48 : Int) ≤ (C : Int) := by omega
        have f5 : ¬ (C : Int) ≤ 57 := by omega
        have e0 : ((C : Int) == 46) = false := by simp; omega
        have e1 : ((C : Int) == 45) = false := by simp; omega
        have e2 : ((C : Int) == 95) = true := by simp; omega
        have hch : chB C = true := by unfold chB; simp; omega
        have HP2 : Hid (∀ c ∈ l.take (pos + 1), chB c.toNat = true) := Lib.hid (all_step hp HP.out (by rw [Hx.out, HC.out.1]; exact hch))
        obtain rfl : D = 1 := HC.out.2 hch
        clear hch
        go_wp2
        go_roundw
        case rel => exact ⟨pos + 1, by omega, rfl, rfl, HP2⟩
        case measure => simp; omega
      · have f0 : ¬ (97 : Int) ≤ (C : Int) := by omega
        have f1 : (C : Int) ≤ 122 := by omega
        have f2 : ¬ (65 : Int) ≤ (C : Int) := by omega
        have f3 : (C : Int) ≤ 90 := by omega
        have f4 : ¬ (48 : Int) ≤ (C : Int) := by omega
        have f5 : (C : Int) ≤ 57 := by omega
        have e0 : ((C : Int) == 46) = false := by simp; omega
        have e1 : ((C : Int) == 45) = false := by simp; omega
        have e2 : ((C : Int) == 95) = false := by simp; omega
        have hch : chB C = false := by unfold chB; simp; omega
        obtain rfl : false = R := by
          rw [← HA.out, eq_comm, List.all_eq_false]
          exact ⟨x, by rw [← Hx.out]; exact List.getElem_mem _, by rw [HC.out.1, hch]; decide⟩
        clear hch
        go_wp2
        try rw [Exit.noGoto_ret]
        go_ret
        exact ⟨rfl, HB.out _⟩
      · have f0 : ¬ (97 : Int) ≤ (C : Int) := by omega
        have f1 : (C : Int) ≤ 122 := by omega
        have f2 : ¬ (65 : Int) ≤ (C : Int) := by omega
        have f3 : (C : Int) ≤ 90 := by omega
        have f4 : ¬ (48 : Int) ≤ (C : Int) := by omega
        have f5 : (C : Int) ≤ 57 := by omega
        have e0 : ((C : Int) == 46) = false := by simp; omega
        have e1 : ((C : Int) == 45) = false := by simp; omega
        have e2 : ((C : Int) == 95) = false := by simp; omega
        have hch : chB C = false := by unfold chB; simp; omega
        obtain rfl : false = R := by
          rw [← HA.out, eq_comm, List.all_eq_false]
          exact ⟨x, by rw [← Hx.out]; exact List.getElem_mem _, by rw [HC.out.1, hch]; decide⟩
        clear hch
        go_wp2
        try rw [Exit.noGoto_ret]
        go_ret
        exact ⟨rfl, HB.out _⟩
      · have f0 : ¬ (97 : Int) ≤ (C : Int) := by omega
        have f1 : (C : Int) ≤ 122 := by omega
        have f2 : ¬ (65 : Int) ≤ (C : Int) := by omega
        have f3 : (C : Int) ≤ 90 := by omega
        have f4 : (48 : Int) ≤ (C : Int) := by omega
        have f5 : ¬ (C : Int) ≤ 57 := by omega
        have e0 : ((C : Int) == 46) = false := by simp; omega
        have e1 : ((C : Int) == 45) = false := by simp; omega
        have e2 : ((C : Int) == 95) = false := by simp; omega
        have hch : chB C = false := by unfold chB; simp; omega
        obtain rfl : false = R := by
          rw [← HA.out, eq_comm, List.all_eq_false]
          exact ⟨x, by rw [← Hx.out]; exact List.getElem_mem _, by rw [HC.out.1, hch]; decide⟩
        clear hch
        go_wp2
        try rw [Exit.noGoto_ret]
        go_ret
        exact ⟨rfl, HB.out _⟩
      · have f0 : ¬ (97 : Int) ≤ (C : Int) := by omega
        have f1 : (C : Int) ≤ 122 := by omega
        have f2 : (65 : Int) ≤ (C : Int) := by omega
        have f3 : ¬ (C : Int) ≤ 90 := by omega
        have f4 : (48 : Int) ≤ (C : Int) := by omega
        have f5 : ¬ (C : Int) ≤ 57 := by omega
        have e0 : ((C : Int) == 46) = false := by simp; omega
        have e1 : ((C : Int) == 45) = false := by simp; omega
        have e2 : ((C : Int) == 95) = false := by simp; omega
        have hch : chB C = false := by unfold chB; simp; omega
        obtain rfl : false = R := by
          rw [← HA.out, eq_comm, List.all_eq_false]
          exact ⟨x, by rw [← Hx.out]; exact List.getElem_mem _, by rw [HC.out.1, hch]; decide⟩
        clear hch
        go_wp2
        try rw [Exit.noGoto_ret]
        go_ret
        exact ⟨rfl, HB.out _⟩
      · have f0 : ¬ (97 : Int) ≤ (C : Int) := by omega
        have f1 : (C : Int) ≤ 122 := by omega
        have f2 : (65 : Int) ≤ (C : Int) := by omega
        have f3 : ¬ (C : Int) ≤ 90 := by omega
        have f4 : (48 : Int) ≤ (C : Int) := by omega
        have f5 : ¬ (C : Int) ≤ 57 := by omega
        have e0 : ((C : Int) == 46) = false := by simp; omega
        have e1 : ((C : Int) == 45) = false := by simp; omega
        have e2 : ((C : Int) == 95) = false := by simp; omega
        have hch : chB C = false := by unfold chB; simp; omega
        obtain rfl : false = R := by
          rw [← HA.out, eq_comm, List.all_eq_false]
          exact ⟨x, by rw [← Hx.out]; exact List.getElem_mem _, by rw [HC.out.1, hch]; decide⟩
        clear hch
        go_wp2
        try rw [Exit.noGoto_ret]
        go_ret
        exact ⟨rfl, HB.out _⟩
      · have f0 : (97 : Int) ≤ (C : Int) := by omega
        have f1 : ¬ (C : Int) ≤ 122 := by omega
        have f2 : (65 : Int) ≤ (C : Int) := by omega
        have f3 : ¬ (C : Int) ≤ 90 := by omega
        have f4 : (48 : Int) ≤ (C : Int) := by omega
        have f5 : ¬ (C : Int) ≤ 57 := by omega
        have e0 : ((C : Int) == 46) = false := by simp; omega
        have e1 : ((C : Int) == 45) = false := by simp; omega
        have e2 : ((C : Int) == 95) = false := by simp; omega
        have hch : chB C = false := by unfold chB; simp; omega
        obtain rfl : false = R := by
          rw [← HA.out, eq_comm, List.all_eq_false]
          exact ⟨x, by rw [← Hx.out]; exact List.getElem_mem _, by rw [HC.out.1, hch]; decide⟩
        clear hch
        go_wp2
        try rw [Exit.noGoto_ret]
        go_ret
        exact ⟨rfl, HB.out _⟩
    · have hps : ¬ pos < (str l).size := by rw [str_size]; exact hp
      have hnx : ∀ ty, (Instr.next (.pointer (some ⟨w.heap.size, 0, none⟩)) true ty).run Tryz.prog (w.iter (str l) pos) = _ := fun ty => run_next_end w (str l) pos ty hps
      obtain rfl : true = R := by
        rw [← HA.out, eq_comm, List.all_eq_true]
        have h := HP.out
        rwa [List.take_of_length_le (by omega)] at h
      have HB : Hid (∀ q, Below w.heap.size w (w.iter (str l) q)) := Lib.hid (fun q => balloc (Below.refl _ w) _)
      clear hps
      go_wp2
      try rw [Exit.noGoto_ret]
      go_ret
      exact ⟨rfl, HB.out _⟩
end Go.Proofs.YtiomhdanmcnaeaaGreatDoor
