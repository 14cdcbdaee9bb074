/- Rows of numbers, and of members, as the program reads them. -/
import Derived.Test.YtnbhjehaecifcaaPd06
namespace Go.Proofs.Ytnbhjehaecifcaa
open Go.RowKit

theorem set_next {α : Type} (xs : List α) (k j : Nat) (z x : α) (hx : xs.length = j) (hj : j < k) : (xs ++ List.replicate (k - j) z).set j x = (xs ++ [x]) ++ List.replicate (k - (j + 1)) z := by
  rw [List.set_append_right _ _ (by omega), hx, Nat.sub_self, show k - j = (k - (j + 1)) + 1 by omega, List.replicate_succ, List.set_cons_zero]
  simp
theorem mkM (w : World) (k : Nat) (hk : k ≤ 1000) (x : Int) (hx : x = (k : Int)) : (Instr.makeSlice 22 (.int .i64 x) (.int .i64 x)).run Try.prog w = .ok (.slice (some ⟨w.heap.size, 0, none⟩) k k) (w.alloc (.cells (madeCells #[.int .i64 0, .int .i64 0, .bool false] (k * 3)) 43)) := by
  obtain ⟨i0, hi, hz0, hz1, hz2⟩ := info_parts infoM
  subst hx
  have h := run_make (P := Try.prog) w 22 43 i0 (.agg #[.int .i64 0, .int .i64 0, .bool false]) Try.underlying22 hi hz0 .i64 .i64 k k (by omega) (Int.le_refl _) (by rw [hz2]; omega) (by omega)
  simp only [Int.toNat_natCast, hz1] at h
  exact h
theorem made_get (k j : Nat) (h : j < k * 3) : (madeCells #[.int .i64 0, .int .i64 0, .bool false] (k * 3))[j]? = (mcs (List.replicate k ((0, 0, false) : Mb)))[j]? := by
  have hl : (mcs (List.replicate k ((0, 0, false) : Mb))).length = k * 3 := by rw [mcs_length, List.length_replicate]
  obtain ⟨g0, g1, g2⟩ := mcs_get (List.replicate k ((0, 0, false) : Mb)) (j / 3) (0, 0, false) (by rw [List.getElem?_replicate, if_pos (by omega)])
  have hm : (madeCells #[.int .i64 0, .int .i64 0, .bool false] (k * 3))[j]? = some ((#[.int .i64 0, .int .i64 0, .bool false] : Array Value)[j % 3]!) := by
    simp [madeCells, h]
  rcases (by omega : j % 3 = 0 ∨ j % 3 = 1 ∨ j % 3 = 2) with e | e | e
  · rw [show j / 3 * 3 = j by omega] at g0
    rw [hm, e, g0]
    rfl
  · rw [show j / 3 * 3 + 1 = j by omega] at g1
    rw [hm, e, g1]
    rfl
  · rw [show j / 3 * 3 + 2 = j by omega] at g2
    rw [hm, e, g2]
    rfl
theorem row_madeM (w : World) (k : Nat) (hk : k ≤ 1000) : RowM (w.alloc (.cells (madeCells #[.int .i64 0, .int .i64 0, .bool false] (k * 3)) 43)) (some ⟨w.heap.size, 0, none⟩) k k (List.replicate k (0, 0, false)) := by
  refine ⟨by rw [mcs_length]; simp, .inr ⟨w.heap.size, 0, k, rfl, by simp, Nat.le_refl _, by unfold maxLen; omega, fun j u hu => ?_, fun j hj => by simp at hj, fun j hj => by rw [World.frozen?_alloc_mark]; simp⟩⟩
  have hlt : j < k * 3 := by
    have := (List.getElem?_eq_some_iff.1 hu).1
    rw [mcs_length] at this
    simpa using this
  rw [Nat.zero_add, World.cell?_alloc_mark, ← hu]
  exact made_get k j hlt
theorem mcs_set : ∀ (l : List Mb) (k : Nat) (m : Mb), k < l.length → ((((mcs l).set (k * 3) (.int .i64 m.1)).set (k * 3 + 1) (.int .i64 m.2.1)).set (k * 3 + 2) (.bool m.2.2)) = mcs (l.set k m)
  | [], _, _, h => by simp at h
  | q :: l, 0, m, _ => rfl
  | q :: l, k + 1, m, h => by
    have := mcs_set l k m (by simpa using h)
    rw [show (k + 1) * 3 + 2 = (k * 3 + 2) + 1 + 1 + 1 by omega, show (k + 1) * 3 + 1 = (k * 3 + 1) + 1 + 1 + 1 by omega, show (k + 1) * 3 = k * 3 + 1 + 1 + 1 by omega]
    simp only [mcs, mb1, List.cons_append, List.nil_append, List.set_cons_succ, this]
theorem row_many (w : World) (k : Nat) (hk : 8 < k) (f : Value) : Calls Try.prog 33 #[.int .i64 (k : Int), .int .i64 8, f] w fun e w' => e = .returned (.slice none 0 0) ∧ w = w' := by
  have h1 : (8 : Int) < (k : Int) := by omega
  go_enter Try.func33, Try.ntmps33
  go_wp2
  go_ret
  exact ⟨rfl, rfl⟩
theorem rowM_many (w : World) (k m : Nat) (hk : m < k) (f : Value) : Calls Try.prog 34 #[.int .i64 (k : Int), .int .i64 (m : Int), f] w fun e w' => e = .returned (.slice none 0 0) ∧ w = w' := by
  have h1 : (m : Int) < (k : Int) := by omega
  go_enter Try.func34, Try.ntmps34
  go_wp2
  go_ret
  exact ⟨rfl, rfl⟩
set_option maxHeartbeats 2000000 in
theorem rowI_any (w : World) (b R C D : Nat) (l : List UInt8) (h : PE w b R C D l) (k : Nat) (hk : k ≤ 8) :
    Calls Try.prog 33 #[.int .i64 (k : Int), .int .i64 8, .func (.func 28) #[] #[.pointer (some ⟨R, 0, none⟩)]] w fun e w' => ∃ g, e = .returned (.slice (some ⟨g, 0, none⟩) k k) ∧ RowI w' (some ⟨g, 0, none⟩) k k (rowF i8 r8 k l) ∧ w.heap.size ≤ g ∧ PE w' b R C D (restF r8 k l) ∧ Mod (· = b) w w' := by
  have H := Lib.hid h
  have hmk := fun W => mkI W k (by omega) (k : Int) rfl
  have h1 : ¬ (8 : Int) < (k : Int) := by omega
  clear h
  go_enter Try.func33, Try.ntmps33
  go_wp2
  obtain ⟨w1, Hw1⟩ : ∃ w1, Hid (w.alloc (.cells (madeCells #[.int .i64 0] k) 3) = w1) := ⟨_, Lib.hid rfl⟩
  obtain ⟨g, Hg⟩ : ∃ g, Hid (w.heap.size = g) := ⟨_, Lib.hid rfl⟩
  have HR : Hid (RowI w1 (some ⟨g, 0, none⟩) k k (List.replicate k 0)) := Lib.hid (by rw [← Hw1.out, ← Hg.out]; exact row_made w k (by omega))
  have HB : Hid (Below w.heap.size w w1) := Lib.hid (by rw [← Hw1.out]; exact (Below.refl _ _).alloc (Nat.le_refl _) _)
  have H1 := Lib.hid (H.out.below HB.out)
  have hlt : Hid (b < g ∧ R < g ∧ C < g ∧ D < g) := Lib.hid (by have h1 := H.out.lt; have h2 := Hg.out; exact ⟨by omega, by omega, by omega, by omega⟩)
  rw [Hw1.out, Hg.out]
  clear hmk
  go_loopw [8, 16] (fun _ i wr => ∃ j : Nat, i = .int .i64 (j : Int) ∧ j ≤ k ∧ Hid (RowI wr (some ⟨g, 0, none⟩) k k (rowF i8 r8 j l ++ List.replicate (k - j) 0)) ∧ Hid (PE wr b R C D (restF r8 j l)) ∧ Hid (Mod (· = b) w wr)) (fun _ i _ => k - (intOf i).toNat)
  case atStart => exact ⟨0, rfl, Nat.zero_le _, HR, H1, Lib.hid (Mod.of_below HB.out)⟩
  case round =>
    obtain ⟨j, rfl, hj, HR2, HP, HM⟩ := hrel
    by_cases hjk : j < k
    · have hjk' : (j : Int) < (k : Int) := by omega
      obtain ⟨z, Hz⟩ : ∃ z, Hid (i8 (restF r8 j l) = z) := ⟨_, Lib.hid rfl⟩
      go_wp2_with fail
      refine (rcount_any wr b R C D (restF r8 j l) HP.out).mono ?_
      rw [Hz.out]
      rintro e w2 ⟨rfl, hp, hm⟩
      have HP2 : Hid (PE w2 b R C D (restF r8 (j + 1) l)) := Lib.hid hp
      have HM2 : Hid (Mod (· = b) w w2) := Lib.hid (HM.out.trans hm)
      have HR3 : Hid (RowI w2 (some ⟨g, 0, none⟩) k k (rowF i8 r8 j l ++ List.replicate (k - j) 0)) := Lib.hid (HR2.out.later hm (fun g' hg' e => by simp [blk] at hg'; have := hlt.out; omega))
      have hcs := HR3.out.cells'
      obtain ⟨u, hu⟩ : ∃ u, (ics (rowF i8 r8 j l ++ List.replicate (k - j) 0))[j]? = some u := ⟨_, List.getElem?_eq_getElem (by rw [HR3.out.length]; omega)⟩
      have d0 := hcs.2.2.2.1 j u hu
      rw [Nat.zero_add] at d0
      have f0 := hcs.2.2.2.2.2 j (by omega)
      rw [Nat.zero_add] at f0
      have hset := HR3.out.set (j := j) (by omega) (.int .i64 z)
      rw [ics_set, set_next _ k j 0 z (row_len _ _ _ _) hjk, ← Hz.out, ← row_next, Hz.out, Nat.zero_add] at hset
      have HR4 := Lib.hid hset
      have HM4 : Hid (Mod (· = b) w (w2.setCell ⟨g, j, none⟩ (.int .i64 z))) := Lib.hid (HM2.out.setCell (.inr (by show _ ≤ g; have := Hg.out; omega)) _)
      have HP4 : Hid (PE (w2.setCell ⟨g, j, none⟩ (.int .i64 z)) b R C D (restF r8 (j + 1) l)) := Lib.hid (by
        have h := hlt.out
        exact HP2.out.other ((Mod.refl (· = g) w2).set1 _) (by omega) (by omega) (by omega) (by omega))
      clear hp hm hcs hu hset
      go_wp2
      go_roundw
      case rel => exact ⟨j + 1, by go_num, by omega, HR4, HP4, HM4⟩
      case measure => simp [intOf]; omega
    · obtain rfl : j = k := by omega
      rw [Nat.sub_self, List.replicate_zero, List.append_nil] at HR2
      go_wp2
      go_ret
      exact ⟨g, rfl, HR2.out, Nat.le_of_eq Hg.out, HP.out, HM.out⟩
/-- A closure that reads a member. -/
structure ClosR (k : FuncId) (q r : Value) (b R C D : Nat) (v : List UInt8 → Mb) (f : List UInt8 → List UInt8) : Prop where
  call : ∀ args u, (callFunc k args).run Try.prog u = .ok (.enter k args) u
  run : ∀ u l, PE u b R C D l → Calls Try.prog k #[q, r] u fun e u' => e = .returned (mbV (v l)) ∧ PE u' b R C D (f l) ∧ Mod (· = b) u u'
set_option maxHeartbeats 2000000 in
theorem rowM_any (w : World) (b R C D : Nat) (l : List UInt8) (h : PE w b R C D l) (fid : FuncId) (q r : Value) (v : List UInt8 → Mb) (f : List UInt8 → List UInt8) (hc : ClosR fid q r b R C D v f) (k m : Nat) (hk : k ≤ m) (hm : m ≤ 100) :
    Calls Try.prog 34 #[.int .i64 (k : Int), .int .i64 (m : Int), .func (.func fid) #[] #[q, r]] w fun e w' => ∃ g, e = .returned (.slice (some ⟨g, 0, none⟩) k k) ∧ RowM w' (some ⟨g, 0, none⟩) k k (rowF v f k l) ∧ w.heap.size ≤ g ∧ PE w' b R C D (restF f k l) ∧ Mod (· = b) w w' := by
  have H := Lib.hid h
  have Hc := Lib.hid hc
  have hcall := hc.call
  have hmk := fun W => mkM W k (by omega) (k : Int) rfl
  have h1 : ¬ (m : Int) < (k : Int) := by omega
  clear h hc
  go_enter Try.func34, Try.ntmps34
  go_wp2
  obtain ⟨w1, Hw1⟩ : ∃ w1, Hid (w.alloc (.cells (madeCells #[.int .i64 0, .int .i64 0, .bool false] (k * 3)) 43) = w1) := ⟨_, Lib.hid rfl⟩
  obtain ⟨g, Hg⟩ : ∃ g, Hid (w.heap.size = g) := ⟨_, Lib.hid rfl⟩
  have HR : Hid (RowM w1 (some ⟨g, 0, none⟩) k k (List.replicate k (0, 0, false))) := Lib.hid (by rw [← Hw1.out, ← Hg.out]; exact row_madeM w k (by omega))
  have HB : Hid (Below w.heap.size w w1) := Lib.hid (by rw [← Hw1.out]; exact (Below.refl _ _).alloc (Nat.le_refl _) _)
  have H1 := Lib.hid (H.out.below HB.out)
  have hlt : Hid (b < g ∧ R < g ∧ C < g ∧ D < g) := Lib.hid (by have h1 := H.out.lt; have h2 := Hg.out; exact ⟨by omega, by omega, by omega, by omega⟩)
  rw [Hw1.out, Hg.out]
  clear hmk
  go_loopw [8, 16] (fun _ i wr => ∃ j : Nat, i = .int .i64 (j : Int) ∧ j ≤ k ∧ Hid (RowM wr (some ⟨g, 0, none⟩) k k (rowF v f j l ++ List.replicate (k - j) (0, 0, false))) ∧ Hid (PE wr b R C D (restF f j l)) ∧ Hid (Mod (· = b) w wr)) (fun _ i _ => k - (intOf i).toNat)
  case atStart => exact ⟨0, rfl, Nat.zero_le _, HR, H1, Lib.hid (Mod.of_below HB.out)⟩
  case round =>
    obtain ⟨j, rfl, hj, HR2, HP, HM⟩ := hrel
    by_cases hjk : j < k
    · have hjk' : (j : Int) < (k : Int) := by omega
      obtain ⟨z, Hz⟩ : ∃ z, Hid (v (restF f j l) = z) := ⟨_, Lib.hid rfl⟩
      go_wp2_with fail
      refine (Hc.out.run wr (restF f j l) HP.out).mono ?_
      rw [Hz.out]
      rintro e w2 ⟨rfl, hp, hm⟩
      have HP2 : Hid (PE w2 b R C D (restF f (j + 1) l)) := Lib.hid hp
      have HM2 : Hid (Mod (· = b) w w2) := Lib.hid (HM.out.trans hm)
      have HR3 : Hid (RowM w2 (some ⟨g, 0, none⟩) k k (rowF v f j l ++ List.replicate (k - j) (0, 0, false))) := Lib.hid (HR2.out.later hm (fun g' hg' e => by simp [blk] at hg'; have := hlt.out; omega))
      have hcs := HR3.out.cells'
      have hat : ∀ o, o < k * 3 → ∃ u, w2.cell? ⟨g, o, none⟩ = some u := fun o ho => by
        obtain ⟨u, hu⟩ : ∃ u, (mcs (rowF v f j l ++ List.replicate (k - j) (0, 0, false)))[o]? = some u := ⟨_, List.getElem?_eq_getElem (by rw [HR3.out.length]; omega)⟩
        have := hcs.2.2.2.1 o u hu
        rw [Nat.zero_add] at this
        exact ⟨u, this⟩
      obtain ⟨u0, d0⟩ := hat (j * 3) (by omega)
      obtain ⟨u1, d1⟩ := hat (j * 3 + 1) (by omega)
      obtain ⟨u2, d2⟩ := hat (j * 3 + 2) (by omega)
      have f0 := hcs.2.2.2.2.2 (j * 3) (by omega)
      have f1 := hcs.2.2.2.2.2 (j * 3 + 1) (by omega)
      have f2 := hcs.2.2.2.2.2 (j * 3 + 2) (by omega)
      rw [Nat.zero_add] at f0 f1 f2
      have hset := ((HR3.out.set (j := j * 3) (by omega) (.int .i64 z.1)).set (j := j * 3 + 1) (by omega) (.int .i64 z.2.1)).set (j := j * 3 + 2) (by omega) (.bool z.2.2)
      rw [mcs_set _ j z (by rw [List.length_append, row_len, List.length_replicate]; omega), set_next _ k j _ z (row_len _ _ _ _) hjk, ← Hz.out, ← row_next, Hz.out, Nat.zero_add, Nat.zero_add, Nat.zero_add] at hset
      have HR4 := Lib.hid hset
      have HM4 : Hid (Mod (· = b) w (((w2.setCell ⟨g, j * 3, none⟩ (.int .i64 z.1)).setCell ⟨g, j * 3 + 1, none⟩ (.int .i64 z.2.1)).setCell ⟨g, j * 3 + 2, none⟩ (.bool z.2.2))) := Lib.hid (((HM2.out.setCell (.inr (by show _ ≤ g; have := Hg.out; omega)) _).setCell (.inr (by show _ ≤ g; have := Hg.out; omega)) _).setCell (.inr (by show _ ≤ g; have := Hg.out; omega)) _)
      have HP4 : Hid (PE (((w2.setCell ⟨g, j * 3, none⟩ (.int .i64 z.1)).setCell ⟨g, j * 3 + 1, none⟩ (.int .i64 z.2.1)).setCell ⟨g, j * 3 + 2, none⟩ (.bool z.2.2)) b R C D (restF f (j + 1) l)) := Lib.hid (by
        have h := hlt.out
        exact HP2.out.other ((((Mod.refl (· = g) w2).set1 _).set1 _).set1 _) (by omega) (by omega) (by omega) (by omega))
      clear hp hm hcs hat hset
      go_wp2
      go_roundw
      case rel => exact ⟨j + 1, by go_num, by omega, HR4, HP4, HM4⟩
      case measure => simp [intOf]; omega
    · obtain rfl : j = k := by omega
      rw [Nat.sub_self, List.replicate_zero, List.append_nil] at HR2
      go_wp2
      go_ret
      exact ⟨g, rfl, HR2.out, Nat.le_of_eq Hg.out, HP.out, HM.out⟩
end Go.Proofs.Ytnbhjehaecifcaa
