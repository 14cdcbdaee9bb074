/- What a holder says again. -/
import Derived.Test.YthpmodohfjjjcaaHh10
import Derived.Test.YthpmodohfjjjcaaCln9
import Derived.Outline
namespace Go.Proofs.Ythpmodohfjjjcaa
open Go.RowKit

/-- The Want notes of the first k resources. -/
def agM (h : Ho) : Nat → List Nt
  | 0 => []
  | k + 1 => agM h k ++ if (h.lk k).wants = 0 then [] else [⟨1, h.ep, (k : Int), (h.lk k).wants, (h.lk k).count⟩]
theorem agM_length (h : Ho) : ∀ k, (agM h k).length ≤ k
  | 0 => Nat.le_refl _
  | k + 1 => by
    have := agM_length h k
    rw [agM, List.length_append]
    split <;> simp <;> omega
set_option maxRecDepth 100000 in
theorem hAgain_nil (w : World) :
    Calls Try.prog 19 #[.pointer none] w fun e w' => e = .returned (.slice none 0 0) ∧ w = w' := by
  go_enter Try.func19, Try.ntmps19
  go_wp2
  go_ret
  exact ⟨rfl, rfl⟩
set_option maxRecDepth 100000 in
set_option maxHeartbeats 1000000 in
theorem hAgain_any {w : World} {b : Nat} {h : Ho} (x : IsH w b h) {s : Nat} (hs : h.sz = (s : Int)) :
    Calls Try.prog 19 #[.pointer (some ⟨b, 0, none⟩)] w fun e w' => ∃ T, e = .returned T ∧ RN w' T (agM h s) ∧ Below w.heap.size w w' ∧ ∀ g, blk T = some g → w.heap.size ≤ g := by
  have X := Lib.hid x
  have c1 := x.c1
  have hs16 : s ≤ 16 := by have := x.sz; omega
  rw [hs] at c1
  clear x
  go_enter Try.func19, Try.ntmps19
  go_wp2_with fail
  go_loopw [3, 4, 5, 12] (fun T _ _ i wr => ∃ (k : Nat) (T0 : Value), i = .int .i64 (k : Int) ∧ T = T0 ∧ k ≤ s ∧ Hid (Below w.heap.size w wr) ∧ Hid (RN wr T0 (agM h k)) ∧ Hid (∀ g, blk T0 = some g → w.heap.size ≤ g)) (fun _ _ _ i _ => s - (intOf i).toNat)
  case atStart => exact ⟨0, _, rfl, rfl, Nat.zero_le _, Lib.hid (Below.refl _ _), Lib.hid (RG.nil _ _ _), Lib.hid (fun g hg => by cases hg)⟩
  case round =>
    obtain ⟨k, T0, rfl, rfl, hk, HBr, HR, HN⟩ := hrel
    by_cases hlt : k < s
    · have Xr := Lib.hid (X.out.below HBr.out)
      have hr : k < 16 := by omega
      have hi0 : (0 : Int) ≤ (k : Int) := by omega
      have hi1 : (k : Int) < 16 := by omega
      have hks : (k : Int) < (s : Int) := by omega
      have u2 := Xr.out.k2 k hr
      by_cases hw0 : (h.lk k).wants = 0
      · have hb0 : ((h.lk k).wants != 0) = false := bne_no' hw0
        have HL : Hid (agM h (k + 1) = agM h k) := Lib.hid (by rw [agM, if_pos hw0, List.append_nil])
        clear hw0
        go_wp2
        go_roundw
        case rel => exact ⟨k + 1, _, by go_num, rfl, by omega, HBr, by rw [HL.out]; exact HR, HN⟩
        case measure => simp [intOf]; omega
      · have hb0 : ((h.lk k).wants != 0) = true := bne_yes' hw0
        have HL : Hid (agM h (k + 1) = agM h k ++ [⟨1, h.ep, (k : Int), (h.lk k).wants, (h.lk k).count⟩]) := Lib.hid (by rw [agM, if_neg hw0])
        clear hw0
        go_wp2_with fail
        refine (note_any Xr.out hr _ _).mono ?_
        rintro e w3 ⟨rfl, hb⟩
        have B3 := Lib.hid hb
        clear hb u2
        obtain ⟨w4, HW4⟩ : ∃ x, Hid (w3.alloc (.cells #[.int .i64 1, .int .i64 h.ep, .int .i64 (k : Int), .int .i64 (h.lk k).wants, .int .i64 (h.lk k).count] 23) = x) := ⟨_, Lib.hid rfl⟩
        obtain ⟨p4, Hp4⟩ : ∃ x, Hid (w3.heap.size = x) := ⟨_, Lib.hid rfl⟩
        have B4 : Hid (Below wr.heap.size wr w4) := Lib.hid (bnext B3.out (by rw [← HW4.out]; exact balloc (Below.refl _ _) _))
        have G4 : Hid (IsG w4 5 ntE (some ⟨p4, 0, none⟩) 1 [⟨1, h.ep, (k : Int), (h.lk k).wants, (h.lk k).count⟩]) := Lib.hid (by rw [← HW4.out, ← Hp4.out]; exact nt_one w3 ⟨1, h.ep, (k : Int), (h.lk k).wants, (h.lk k).count⟩ _)
        have hlen := agM_length h k
        obtain ⟨T5, w5, hr5, r5, a5⟩ := appG ntInf ntEnc (HR.out.below B4.out) (c := 1) G4.out (by omega) (by decide) 51
        have Hr5 := Lib.hid hr5
        have HB5 : Hid (Below w.heap.size w w5) := Lib.hid (Mod.below (bnext HBr.out B4.out) a5.mod (bnext HBr.out B4.out).size HN.out)
        have HR5 : Hid (RN w5 T5 (agM h (k + 1))) := Lib.hid (by rw [HL.out]; exact r5)
        have HN5 : Hid (∀ g, blk T5 = some g → w.heap.size ≤ g) := Lib.hid (fun g hg => by
          rcases a5.blk with e | ⟨g', e, h'⟩
          · exact HN.out g (e ▸ hg)
          · rw [e] at hg; injection hg with hg; have := HBr.out.size; have := B4.out.size; omega)
        clear hr5 r5 a5
        go_wp2_with (at_builtin; rw [HW4.out, Hp4.out]; refine wpList_append_run rfl (.tmp 24) (.tmp 29) 51 rfl (by exact Hr5.out) ?_)
        go_roundw
        case rel => exact ⟨k + 1, _, by go_num, rfl, by omega, HB5, HR5, HN5⟩
        case measure => simp [intOf]; omega
    · have hks : ¬ (k : Int) < (s : Int) := by omega
      obtain rfl : k = s := by omega
      go_wp2
      go_ret
      exact ⟨_, rfl, HR.out, HBr.out, HN.out⟩
end Go.Proofs.Ythpmodohfjjjcaa
