/- Numbers and texts are read one behind the other, and a reader breaks, as the document says: PackReads. -/
import Derived.Test.YtofafnobgkhdnaaRows
import Derived.Test.YtofafnobgkhdnaaClose
import Derived.Test.YtofafnobgkhdnaaLaw01
import Derived.Test.YtofafnobgkhdnaaRefRd01
namespace Go.Proofs.Ytofafnobgkhdnaa.packReads
open Go.ChangeShapes Go.WideShapes Go.ChangeAt Go.RowKit
open Go.ChangeMaps (open_string shut_string)

/-- Both readers stand at the same place, behind so many calls. -/
def Inv (W : World) (b c len : Nat) (i : Value) (w : World) : Prop :=
  ∃ (k : Nat) (l : List UInt8) (br : Bool), k ≤ len ∧ i = .int .i64 k ∧ l.length ≤ 400 ∧ Rd w b l br ∧ AR w c l br ∧ Below W.heap.size W w
theorem takeB_le (l : List UInt8) (n : Nat) : (takeL l n).length ≤ l.length := takeL_le l n
theorem rtextL_le (l : List UInt8) : (rtextL l).length ≤ l.length := Nat.le_trans (takeL_le _ _) (takeL_le _ _)
theorem eightL_le (l : List UInt8) (m : Int) : (eightL l m).length ≤ l.length := by
  unfold eightL; split
  · exact takeL_le _ _
  · simp
theorem tmod5 (a : Int) : a.tmod 5 = 0 ∨ (a.tmod 5 = 1 ∨ a.tmod 5 = -1) ∨ (a.tmod 5 = 2 ∨ a.tmod 5 = -2) ∨ (a.tmod 5 = 3 ∨ a.tmod 5 = -3) ∨ (a.tmod 5 = 4 ∨ a.tmod 5 = -4) := by
  have h1 := Int.tmod_lt_of_pos a (b := 5) (by omega)
  have h2 := Int.lt_tmod_of_pos a (b := 5) (by omega)
  omega
set_option maxRecDepth 100000 in
set_option maxHeartbeats 4000000 in
theorem walk (a0 : List UInt8) (x1 : Option Addr) (len1 cap1 : Nat) (a1 : List Int) (w : World) (_ : a0.length ≤ maxLen) (w1 : IsInts .i64 w x1 len1 a1) :
    Calls Try.prog 5 #[.string (str a0), .slice x1 len1 cap1] w fun e w' => e = .returned (.bool true) ∧ Below w.heap.size w w' := by
  obtain ⟨s, Hs⟩ : ∃ s, Hid (a0.take 400 = s) := ⟨_, Lib.hid rfl⟩
  have hs : s.length ≤ 400 := by rw [← Hs.out]; simp; omega
  obtain ⟨hl1, hm1, hw1, hc1⟩ := w1
  have Hl1 := Lib.hid hl1
  have Hw1 := Lib.hid hw1
  have Hc1 := Lib.hid hc1
  have hm1' : len1 ≤ 9223372036854775807 := hm1
  clear hl1 hm1 hw1 hc1
  go_enter Try.func5, Try.ntmps5
  go_wp2_with fail
  refine (awake_any _).mono ?_
  rintro e w2 ⟨rfl, hb2⟩
  go_wp2_with fail
  refine (short_any _ 400 (by omega) (by omega) _).mono ?_
  rintro e w3 ⟨rfl, rfl⟩
  rw [show (400 : Int).toNat = 400 from rfl, Hs.out]
  go_wp2_with fail
  refine (Read_any _ _).mono ?_
  rintro e w4 ⟨rfl, hb4, hr4, hz4⟩
  have Hz4 := Lib.hid hz4
  have Hb4 := Lib.hid (bnext hb2 hb4)
  have Hr4 := Lib.hid hr4
  have Hcb := Lib.hid hb2.size
  clear hz4 hb4 hr4 hb2
  go_wp2_with fail
  obtain ⟨b, HB⟩ : ∃ b, Hid (b = w2.heap.size) := ⟨_, Lib.hid rfl⟩
  obtain ⟨c, HC⟩ : ∃ c, Hid (c = w4.heap.size) := ⟨_, Lib.hid rfl⟩
  rw [← HB.out, ← HC.out]
  have Hbc : Hid (b ≠ c) := by have := HB.out; have := HC.out; have := Hz4.out; exact Lib.hid (by omega)
  have HbW : Hid (w.heap.size ≤ b) := by have := HB.out; have := Hcb.out; exact Lib.hid (by omega)
  have HcW : Hid (w.heap.size ≤ c) := by have := HbW.out; have := HB.out; have := HC.out; have := Hz4.out; exact Lib.hid (by omega)
  have H0 : Hid (Inv w b c len1 (.int .i64 0) (w4.alloc (.cells #[.string (str s), .int .i64 0, .bool false] 44))) := by
    have hrd := Hr4.out.below ((Below.refl _ w4).alloc (Nat.le_refl _) (.cells #[.string (str s), .int .i64 0, .bool false] 44))
    rw [← HB.out] at hrd
    refine Lib.hid ⟨0, s, false, Nat.zero_le _, rfl, hs, hrd, ⟨s, 0, ?_, Nat.zero_le _, by omega, by simp⟩, balloc Hb4.out _⟩
    rw [HC.out]
    refine ⟨?_, ?_, ?_, ?_, ?_⟩ <;> simp [go_sem]
  generalize World.alloc w4 _ = w5 at *
  go_loopw [8] (fun i wr => Inv w b c len1 i wr) (fun i _ => len1 - (intOf i).toNat)
  case atStart => exact H0.out
  case round =>
    clear H0 Hr4 Hb4
    obtain ⟨k, l, br, hk, rfl, hl, hrd, har, hbel⟩ := hrel
    by_cases hlt : k < len1 ∧ k < 60
    · obtain ⟨hlt, h60⟩ := hlt
      obtain ⟨xb, off, rfl, hcell⟩ := Hc1.out (by omega)
      have hcell' := hcell k hlt
      have hc : wr.cell? ⟨xb, off + k, none⟩ = some (.int .i64 (a1.getD k 0)) := by rw [← hcell']; exact hbel.cell (p := ⟨xb, off + k, none⟩) (lt_of_cell hcell')
      have HCell := Lib.hid hcell
      clear hcell hcell'
      have Hrd := Lib.hid hrd
      have Har := Lib.hid har
      have Hbel := Lib.hid hbel
      clear hrd har hbel
      generalize hv : a1.getD k 0 = v at *
      have Hv := Lib.hid hv
      clear hv
      rcases tmod5 v with hz | hz | hz | hz | hz
      · skip
        go_wp2_with fail
        refine (RTwo_any _ _ _ _ Hrd.out).mono ?_
        rintro e w5 ⟨rfl, hm5, hr5⟩
        have Har5 := Lib.hid (Har.out.later hm5 Hbc.out.symm)
        have Hbel5 := Lib.hid (bmod Hbel.out hm5 HbW.out)
        have Hr5 := Lib.hid hr5
        clear Har Hbel Hrd hm5 hr5
        go_wp2_with fail
        refine (ATwo_any _ _ _ _ Har5.out).mono ?_
        rintro e w6 ⟨rfl, hm6, hr6⟩
        have Hrd2 := Lib.hid (Hr5.out.later hm6 Hbc.out)
        have Hbel2 := Lib.hid (bmod Hbel5.out hm6 HcW.out)
        have Har2 := Lib.hid hr6
        clear Har5 Hbel5 Hr5 hm6 hr6
        go_wp2_with fail
        refine (Left_any _ _ _ _ Hrd2.out).mono ?_
        rintro e wx ⟨rfl, rfl⟩
        go_wp2_with fail
        refine (ALeft_any _ _ _ _ Har2.out).mono ?_
        rintro e w7 ⟨rfl, hb7⟩
        have Hrd3 := Lib.hid (Hrd2.out.below hb7)
        have Har3 := Lib.hid (Har2.out.later (Mod.of_below (S := fun _ => False) hb7) id)
        have Hbel3 := Lib.hid (bnext Hbel2.out hb7)
        clear Hrd2 Har2 Hbel2 hb7
        go_wp2_with fail
        refine (End_any _ _ _ _ Hrd3.out).mono ?_
        rintro e wx ⟨rfl, rfl⟩
        go_wp2_with fail
        refine (AEnd_any _ _ _ _ Har3.out).mono ?_
        rintro e w8 ⟨rfl, hb8⟩
        have Hrd4 := Lib.hid (Hrd3.out.below hb8)
        have Har4 := Lib.hid (Har3.out.later (Mod.of_below (S := fun _ => False) hb8) id)
        have Hbel4 := Lib.hid (bnext Hbel3.out hb8)
        clear Hrd3 Har3 Hbel3 hb8
        go_wp2
        go_roundw
        case rel => exact ⟨k + 1, _, _, by omega, by go_num, by have := takeL_le l 2; omega, Hrd4.out, Har4.out, Hbel4.out⟩
        case measure => simp [intOf]; omega
      · rcases hz with hz | hz
        all_goals
          go_wp2_with fail
          refine (RFour_any _ _ _ _ Hrd.out).mono ?_
          rintro e w5 ⟨rfl, hm5, hr5⟩
          have Har5 := Lib.hid (Har.out.later hm5 Hbc.out.symm)
          have Hbel5 := Lib.hid (bmod Hbel.out hm5 HbW.out)
          have Hr5 := Lib.hid hr5
          clear Har Hbel Hrd hm5 hr5
          go_wp2_with fail
          refine (AFour_any _ _ _ _ Har5.out).mono ?_
          rintro e w6 ⟨rfl, hm6, hr6⟩
          have Hrd2 := Lib.hid (Hr5.out.later hm6 Hbc.out)
          have Hbel2 := Lib.hid (bmod Hbel5.out hm6 HcW.out)
          have Har2 := Lib.hid hr6
          clear Har5 Hbel5 Hr5 hm6 hr6
          go_wp2_with fail
          refine (Left_any _ _ _ _ Hrd2.out).mono ?_
          rintro e wx ⟨rfl, rfl⟩
          go_wp2_with fail
          refine (ALeft_any _ _ _ _ Har2.out).mono ?_
          rintro e w7 ⟨rfl, hb7⟩
          have Hrd3 := Lib.hid (Hrd2.out.below hb7)
          have Har3 := Lib.hid (Har2.out.later (Mod.of_below (S := fun _ => False) hb7) id)
          have Hbel3 := Lib.hid (bnext Hbel2.out hb7)
          clear Hrd2 Har2 Hbel2 hb7
          go_wp2_with fail
          refine (End_any _ _ _ _ Hrd3.out).mono ?_
          rintro e wx ⟨rfl, rfl⟩
          go_wp2_with fail
          refine (AEnd_any _ _ _ _ Har3.out).mono ?_
          rintro e w8 ⟨rfl, hb8⟩
          have Hrd4 := Lib.hid (Hrd3.out.below hb8)
          have Har4 := Lib.hid (Har3.out.later (Mod.of_below (S := fun _ => False) hb8) id)
          have Hbel4 := Lib.hid (bnext Hbel3.out hb8)
          clear Hrd3 Har3 Hbel3 hb8
          go_wp2
          go_roundw
          case rel => exact ⟨k + 1, _, _, by omega, by go_num, by have := takeL_le l 4; omega, Hrd4.out, Har4.out, Hbel4.out⟩
          case measure => simp [intOf]; omega
      · by_cases hlast : k + 1 < len1
        · have hb1 := bounds_i64 (Hw1.out (a1.getD (k + 1) 0) (by have := Hl1.out; rw [List.getD_eq_getElem?_getD, List.getElem?_eq_getElem (by omega)]; simp))
          have hcn : wr.cell? ⟨xb, off + (k + 1), none⟩ = some (.int .i64 (a1.getD (k + 1) 0)) := by rw [← HCell.out (k + 1) hlast]; exact Hbel.out.cell (p := ⟨xb, off + (k + 1), none⟩) (lt_of_cell (HCell.out (k + 1) hlast))
          generalize a1.getD (k + 1) 0 = m at *
          rcases hz with hz | hz
          all_goals
            go_wp2_with fail
            refine (REight_any _ _ _ _ (by omega) (by omega) _ Hrd.out).mono ?_
            rintro e w5 ⟨rfl, hm5, hr5⟩
            have Har5 := Lib.hid (Har.out.later hm5 Hbc.out.symm)
            have Hbel5 := Lib.hid (bmod Hbel.out hm5 HbW.out)
            have Hr5 := Lib.hid hr5
            clear Har Hbel Hrd hm5 hr5
            go_wp2_with fail
            refine (AEight_any _ _ _ _ (by omega) (by omega) _ Har5.out).mono ?_
            rintro e w6 ⟨rfl, hm6, hr6⟩
            have Hrd2 := Lib.hid (Hr5.out.later hm6 Hbc.out)
            have Hbel2 := Lib.hid (bmod Hbel5.out hm6 HcW.out)
            have Har2 := Lib.hid hr6
            clear Har5 Hbel5 Hr5 hm6 hr6
            go_wp2_with fail
            refine (Left_any _ _ _ _ Hrd2.out).mono ?_
            rintro e wx ⟨rfl, rfl⟩
            go_wp2_with fail
            refine (ALeft_any _ _ _ _ Har2.out).mono ?_
            rintro e w7 ⟨rfl, hb7⟩
            have Hrd3 := Lib.hid (Hrd2.out.below hb7)
            have Har3 := Lib.hid (Har2.out.later (Mod.of_below (S := fun _ => False) hb7) id)
            have Hbel3 := Lib.hid (bnext Hbel2.out hb7)
            clear Hrd2 Har2 Hbel2 hb7
            go_wp2_with fail
            refine (End_any _ _ _ _ Hrd3.out).mono ?_
            rintro e wx ⟨rfl, rfl⟩
            go_wp2_with fail
            refine (AEnd_any _ _ _ _ Har3.out).mono ?_
            rintro e w8 ⟨rfl, hb8⟩
            have Hrd4 := Lib.hid (Hrd3.out.below hb8)
            have Har4 := Lib.hid (Har3.out.later (Mod.of_below (S := fun _ => False) hb8) id)
            have Hbel4 := Lib.hid (bnext Hbel3.out hb8)
            clear Hrd3 Har3 Hbel3 hb8
            go_wp2
            go_roundw
            case rel => exact ⟨k + 1, _, _, by omega, by go_num, by have := eightL_le l m; omega, Hrd4.out, Har4.out, Hbel4.out⟩
            case measure => simp [intOf]; omega
        · rcases hz with hz | hz
          all_goals
            go_wp2_with fail
            refine (REight_any _ _ _ _ (by omega) (by omega) _ Hrd.out).mono ?_
            rintro e w5 ⟨rfl, hm5, hr5⟩
            have Har5 := Lib.hid (Har.out.later hm5 Hbc.out.symm)
            have Hbel5 := Lib.hid (bmod Hbel.out hm5 HbW.out)
            have Hr5 := Lib.hid hr5
            clear Har Hbel Hrd hm5 hr5
            go_wp2_with fail
            refine (AEight_any _ _ _ _ (by omega) (by omega) _ Har5.out).mono ?_
            rintro e w6 ⟨rfl, hm6, hr6⟩
            have Hrd2 := Lib.hid (Hr5.out.later hm6 Hbc.out)
            have Hbel2 := Lib.hid (bmod Hbel5.out hm6 HcW.out)
            have Har2 := Lib.hid hr6
            clear Har5 Hbel5 Hr5 hm6 hr6
            go_wp2_with fail
            refine (Left_any _ _ _ _ Hrd2.out).mono ?_
            rintro e wx ⟨rfl, rfl⟩
            go_wp2_with fail
            refine (ALeft_any _ _ _ _ Har2.out).mono ?_
            rintro e w7 ⟨rfl, hb7⟩
            have Hrd3 := Lib.hid (Hrd2.out.below hb7)
            have Har3 := Lib.hid (Har2.out.later (Mod.of_below (S := fun _ => False) hb7) id)
            have Hbel3 := Lib.hid (bnext Hbel2.out hb7)
            clear Hrd2 Har2 Hbel2 hb7
            go_wp2_with fail
            refine (End_any _ _ _ _ Hrd3.out).mono ?_
            rintro e wx ⟨rfl, rfl⟩
            go_wp2_with fail
            refine (AEnd_any _ _ _ _ Har3.out).mono ?_
            rintro e w8 ⟨rfl, hb8⟩
            have Hrd4 := Lib.hid (Hrd3.out.below hb8)
            have Har4 := Lib.hid (Har3.out.later (Mod.of_below (S := fun _ => False) hb8) id)
            have Hbel4 := Lib.hid (bnext Hbel3.out hb8)
            clear Hrd3 Har3 Hbel3 hb8
            go_wp2
            go_roundw
            case rel => exact ⟨k + 1, _, _, by omega, by go_num, by have := eightL_le l 1099511627776; omega, Hrd4.out, Har4.out, Hbel4.out⟩
            case measure => simp [intOf]; omega
      · rcases hz with hz | hz
        all_goals
          go_wp2_with fail
          refine (RText_any _ _ _ _ Hrd.out).mono ?_
          rintro e w5 ⟨rfl, hm5, hr5⟩
          have Har5 := Lib.hid (Har.out.later hm5 Hbc.out.symm)
          have Hbel5 := Lib.hid (bmod Hbel.out hm5 HbW.out)
          have Hr5 := Lib.hid hr5
          clear Har Hbel Hrd hm5 hr5
          go_wp2_with fail
          refine (AText_any _ _ _ _ Har5.out).mono ?_
          rintro e w6 ⟨rfl, hm6, hr6⟩
          have Hrd2 := Lib.hid (Hr5.out.later hm6 Hbc.out)
          have Hbel2 := Lib.hid (bmod Hbel5.out hm6 HcW.out)
          have Har2 := Lib.hid hr6
          clear Har5 Hbel5 Hr5 hm6 hr6
          go_wp2_with fail
          refine (Left_any _ _ _ _ Hrd2.out).mono ?_
          rintro e wx ⟨rfl, rfl⟩
          go_wp2_with fail
          refine (ALeft_any _ _ _ _ Har2.out).mono ?_
          rintro e w7 ⟨rfl, hb7⟩
          have Hrd3 := Lib.hid (Hrd2.out.below hb7)
          have Har3 := Lib.hid (Har2.out.later (Mod.of_below (S := fun _ => False) hb7) id)
          have Hbel3 := Lib.hid (bnext Hbel2.out hb7)
          clear Hrd2 Har2 Hbel2 hb7
          go_wp2_with fail
          refine (End_any _ _ _ _ Hrd3.out).mono ?_
          rintro e wx ⟨rfl, rfl⟩
          go_wp2_with fail
          refine (AEnd_any _ _ _ _ Har3.out).mono ?_
          rintro e w8 ⟨rfl, hb8⟩
          have Hrd4 := Lib.hid (Hrd3.out.below hb8)
          have Har4 := Lib.hid (Har3.out.later (Mod.of_below (S := fun _ => False) hb8) id)
          have Hbel4 := Lib.hid (bnext Hbel3.out hb8)
          clear Hrd3 Har3 Hbel3 hb8
          go_wp2
          go_roundw
          case rel => exact ⟨k + 1, _, _, by omega, by go_num, by have := rtextL_le l; omega, Hrd4.out, Har4.out, Hbel4.out⟩
          case measure => simp [intOf]; omega
      · rcases hz with hz | hz
        all_goals
          have Hrd2 := Hrd
          have Har2 := Har
          have Hbel2 := Hbel
          go_wp2_with fail
          refine (Left_any _ _ _ _ Hrd2.out).mono ?_
          rintro e wx ⟨rfl, rfl⟩
          go_wp2_with fail
          refine (ALeft_any _ _ _ _ Har2.out).mono ?_
          rintro e w7 ⟨rfl, hb7⟩
          have Hrd3 := Lib.hid (Hrd2.out.below hb7)
          have Har3 := Lib.hid (Har2.out.later (Mod.of_below (S := fun _ => False) hb7) id)
          have Hbel3 := Lib.hid (bnext Hbel2.out hb7)
          clear Hrd2 Har2 Hbel2 hb7
          go_wp2_with fail
          refine (End_any _ _ _ _ Hrd3.out).mono ?_
          rintro e wx ⟨rfl, rfl⟩
          go_wp2_with fail
          refine (AEnd_any _ _ _ _ Har3.out).mono ?_
          rintro e w8 ⟨rfl, hb8⟩
          have Hrd4 := Lib.hid (Hrd3.out.below hb8)
          have Har4 := Lib.hid (Har3.out.later (Mod.of_below (S := fun _ => False) hb8) id)
          have Hbel4 := Lib.hid (bnext Hbel3.out hb8)
          clear Hrd3 Har3 Hbel3 hb8
          go_wp2
          go_roundw
          case rel => exact ⟨k + 1, _, _, by omega, by go_num, by have := hl; omega, Hrd4.out, Har4.out, Hbel4.out⟩
          case measure => simp [intOf]; omega
    · have hd : ¬ (k < len1) ∨ ¬ (k < 60) := by omega
      have Hbel := Lib.hid hbel
      clear hrd har hbel
      rcases (by omega : len1 ≤ k ∨ (k < len1 ∧ 60 ≤ k)) with h | ⟨h, h6⟩
      all_goals
        go_wp2
        go_ret
        exact ⟨rfl, Hbel.out⟩
theorem own : ownKnob Try.prog.godebug = none := by kernel_rfl
theorem laidOut : laidOutB Try.prog = true := by kernel_rfl
set_option maxRecDepth 100000 in
theorem lifted (os : Os) (started : os.Started) (H : Type) (enc : TypeId × Value → H) :
    ReturnsInHanded {} Try.checked os 5 .any (Rows.packReadsSpec.pre6 enc Try.prog Try.f5 Rows.packReadsRow.domain false) (Rows.packReadsSpec.post enc Try.prog Try.f5 false true false false) := by
  refine returnsInHanded_of_change (C := Try.checked) own started (by kernel_rfl) Try.func5
    (ChangeSpec.witness6 (enc := enc) (C := Try.checked) false ⟨#[], #[.string ByteArray.empty, .slice none 0 0], []⟩ 8 (by kernel_rfl) (by kernel_rfl) (by kernel_rfl) (by kernel_rfl)) ?_
  intro W base args ds gs before hval0 hW hcnd _
  have hval : ∀ (j : Nat) t v, Try.f5.params[j]? = some t → args[j]? = some v → Value.okWide Try.prog W .any base t v := hval0
  have hW' := hW
  obtain ⟨p, q, hA0, hV, rfl, hfz, hnd⟩ := hW
  have hA : DataW.TrodAll enc Try.prog W 0 (fun _ => true) true Try.f5.params.toList args.toList ds p := hA0
  rw [Try.params5] at hA hval
  obtain ⟨v0, vs0, d0, ds0, p0, q0, hargs, rfl, rfl, h0, r0⟩ := trodAll_cons hA
  obtain ⟨v1, vs1, d1, ds1, p1, q1, rfl, rfl, rfl, h1, r1⟩ := trodAll_cons r0
  obtain ⟨rfl, rfl, rfl⟩ := trodAll_nil r1
  obtain rfl : args = #[v0, v1] := by cases args; simp_all
  obtain ⟨s0, rfl, rfl, rfl, w0⟩ := open_string Try.underlying9 (hval 0 9 v0 rfl rfl) h0
  obtain ⟨a0, rfl⟩ := str_of s0
  rw [str_size] at w0
  obtain ⟨x1, len1, cap1, a1, rfl, w1⟩ := opens_ints Try.underlying39 Try.underlying3 (by kernel_rfl) (hval 1 39 v1 rfl rfl) h1
  clear hA0 hval0
  refine (walk a0 x1 len1 cap1 a1 W w0 w1).mono fun e W' ⟨he, bel⟩ => ?_
  subst he
  exact ⟨_, rfl, law_post laidOut (by rw [Try.params5]; decide +kernel) rfl Try.underlying4 rfl hW' (fun _ => rfl) bel⟩
theorem over : Rows.packReadsRow.holds Try.pinned (OpenSpec.ofChange Rows.packReadsSpec) :=
  OpenClaim.holds_of_wide 5 Try.f5 rfl rfl rfl rfl rfl rfl rfl ⟨rfl, rfl, rfl, rfl, rfl⟩ rfl rfl rfl rfl rfl (by kernel_rfl) Try.func5 (by kernel_rfl)
    (of_decide_eq_true (by kernel_rfl)) (by unfold Func.isWrapper; first | (rw [if_pos (by decide +kernel)]; kernel_rfl) | (rw [if_neg (by decide +kernel)]; exact ⟨rfl, rfl⟩))
    (fun os started H enc _ => lifted os started H enc)
theorem proved : Rows.PackReadsSaid := over
end Go.Proofs.Ytofafnobgkhdnaa.packReads
