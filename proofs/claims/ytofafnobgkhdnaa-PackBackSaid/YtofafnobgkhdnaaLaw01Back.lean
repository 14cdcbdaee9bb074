/- A row of numbers and texts is read as it was put, and cut short anywhere it is not whole: PackBack. -/
import Derived.Test.YtofafnobgkhdnaaRows
import Derived.Test.YtofafnobgkhdnaaClose
import Derived.Test.YtofafnobgkhdnaaLaw01
import Derived.Test.YtofafnobgkhdnaaBack01
import Derived.Deep.RegionHeld3
namespace Go.Proofs.Ytofafnobgkhdnaa.packBack
open Go.ChangeShapes Go.WideShapes Go.ChangeAt Go.RowKit
open Go.ChangeMaps (open_string shut_string)

/-- Behind k rounds of the first loop. -/
def Inv1 (W : World) (f : Nat → Nat) (g : Nat → List UInt8) (N : Nat) (s n i : Value) (w : World) : Prop :=
  ∃ k : Nat, k ≤ N ∧ s = .string (str (pieces f g 0 k)) ∧ n = .int .i64 k ∧ i = .int .i64 k ∧ Below W.heap.size W w
/-- Behind j rounds of the second loop: what is left is what the other pieces are. -/
def Inv2 (W : World) (b : Nat) (f : Nat → Nat) (g : Nat → List UInt8) (N : Nat) (i : Value) (w : World) : Prop :=
  ∃ j : Nat, j ≤ N ∧ i = .int .i64 j ∧ Rd w b (pieces f g j (N - j)) false ∧ Below W.heap.size W w
/-- Behind i rounds of the third loop, over what was cut short. -/
def Inv3 (W : World) (c : Nat) (L0 : List UInt8) (N : Nat) (i : Value) (w : World) : Prop :=
  ∃ j : Nat, j ≤ N ∧ i = .int .i64 j ∧ Rd w c (stepsL L0 j) (stepsB L0 false j) ∧ Below W.heap.size W w
set_option maxRecDepth 100000 in
set_option maxHeartbeats 40000000 in
theorem walk (x0 : Option Addr) (len0 cap0 : Nat) (a0 : List Int) (x1 : Option Addr) (len1 cap1 : Nat) (a1 : List (List UInt8)) (a2 : Int) (w : World) (w0 : IsInts .u32 w x0 len0 a0) (w1 : IsStrs w x1 len1 a1) (w2 : (Lit.int .i64 a2).wf = true) :
    Calls Try.prog 6 #[.slice x0 len0 cap0, .slice x1 len1 cap1, .int .i64 a2] w fun e w' => e = .returned (.bool true) ∧ Below w.heap.size w w' := by
  have b2 : -9223372036854775808 ≤ a2 ∧ a2 ≤ 9223372036854775807 := by have := bounds_i64 w2; omega
  obtain ⟨hl0, hm0, hw0, hc0⟩ := w0
  obtain ⟨hl1, hm1, hw1, hc1⟩ := w1
  have hm0' : len0 ≤ 9223372036854775807 := hm0
  have hm1' : len1 ≤ 9223372036854775807 := hm1
  obtain ⟨f, Hf⟩ : ∃ f : Nat → Nat, Hid (∀ i, f i = (a0.getD i 0).toNat) := ⟨_, Lib.hid fun _ => rfl⟩
  obtain ⟨g, Hg⟩ : ∃ g : Nat → List UInt8, Hid (∀ i, g i = (a1.getD i []).take 60) := ⟨_, Lib.hid fun _ => rfl⟩
  have Hb0 : Hid (∀ i, 0 ≤ a0.getD i 0 ∧ a0.getD i 0 < 4294967296) := by
    refine Lib.hid fun i => ?_
    rw [List.getD_eq_getElem?_getD]
    rcases Nat.lt_or_ge i a0.length with h | h
    · have hb := bounds_u32 (hw0 a0[i] (List.getElem_mem h))
      rw [List.getElem?_eq_getElem h]
      simp
      omega
    · rw [List.getElem?_eq_none h]
      simp
  have Hfb : Hid (∀ i, f i < 4294967296) := Lib.hid fun i => by rw [Hf.out]; have := Hb0.out i; omega
  have Hgb : Hid (∀ i, (g i).length ≤ 60) := Lib.hid fun i => by rw [Hg.out]; simp; omega
  have Hc0 := Lib.hid hc0
  have Hc1 := Lib.hid hc1
  clear hl0 hl1 hm0 hm1 hw0 hw1 hc0 hc1 w2
  obtain ⟨N, HN⟩ : ∃ N, Hid (N = min (min len0 len1) 20) := ⟨_, Lib.hid rfl⟩
  go_enter Try.func6, Try.ntmps6
  go_wp2_with fail
  refine (awake_any _).mono ?_
  rintro e wa ⟨rfl, hba⟩
  have Hba := Lib.hid hba
  clear hba
  go_wp2_with fail
  go_loopw [8, 9, 10] (fun s n i wr => Inv1 w f g N s n i wr) (fun _ _ i _ => N - (intOf i).toNat)
  case atStart => exact ⟨0, Nat.zero_le _, rfl, rfl, rfl, Hba.out⟩
  case round =>
    clear Hba
    obtain ⟨k, hk, rfl, rfl, rfl, hbel⟩ := hrel
    have hN := HN.out
    by_cases hlt : k < N
    · have h0 : k < len0 := by omega
      have h1 : k < len1 := by omega
      have h20 : k < 20 := by omega
      clear hN
      obtain ⟨xb, xo, rfl, hcx⟩ := Hc0.out (by omega)
      obtain ⟨yb, yo, rfl, hcy⟩ := Hc1.out (by omega)
      have hcx := hcx k h0
      have hcy := hcy k h1
      obtain ⟨z, Hz⟩ : ∃ z, Hid (a0.getD k 0 = z) := ⟨_, Lib.hid rfl⟩
      obtain ⟨t, Ht⟩ : ∃ t, Hid (a1.getD k [] = t) := ⟨_, Lib.hid rfl⟩
      have bz := Hb0.out k
      rw [Hz.out] at hcx bz
      rw [Ht.out] at hcy
      have Hfk : Hid (f k = z.toNat) := Lib.hid (by rw [Hf.out, Hz.out])
      have Hgk : Hid (t.take 60 = g k) := Lib.hid (by rw [Hg.out, Ht.out])
      have hgl := Hgb.out k
      have hx : wr.cell? ⟨xb, xo + k, none⟩ = some (.int .u32 z) := (hbel.cell (p := ⟨xb, xo + k, none⟩) (lt_of_cell hcx)).trans hcx
      have hy : wr.cell? ⟨yb, yo + k, none⟩ = some (.string (str t)) := (hbel.cell (p := ⟨yb, yo + k, none⟩) (lt_of_cell hcy)).trans hcy
      have Hkeep : Hid (∀ u, Below w.heap.size w u → (Below w.heap.size w u ∧ u.cell? ⟨xb, xo + k, none⟩ = some (.int .u32 z))) :=
        Lib.hid fun u hu => ⟨hu, (hu.cell (p := ⟨xb, xo + k, none⟩) (lt_of_cell hcx)).trans hcx⟩
      have Hbel := Lib.hid hbel
      have ht1 : textE (g k) = 0 := if_pos (by omega)
      have ht2 : (textS (g k)).length ≤ 62 := by rw [textS, if_pos (by omega)]; simp [be_length]; omega
      have hp := (pieces_length f g Hgb.out k 0).1
      have l4 := be_length 4 (f k)
      have l8 := be_length 8 (f k)
      have l2 := be_length 2 (f k)
      clear hbel hcx hcy
      have i1 : (k : Int) < (len0 : Int) := by omega
      have i2 : 0 ≤ (k : Int) := by omega
      have u16 := IntKind.wrap_u16 z
      have hu16 : 0 ≤ IntKind.u16.wrap z ∧ IntKind.u16.wrap z < 65536 := by omega
      have Hu : Hid (be 2 (IntKind.u16.wrap z).toNat = be 2 (f k)) := Lib.hid (by
        rw [u16, Hfk.out]
        simp only [be]
        rw [← u8m (z.toNat / 256), ← u8m (z.toNat), ← u8m ((z % 65536).toNat / 256), ← u8m ((z % 65536).toNat)]
        have e1 : (z % 65536).toNat / 256 % 256 = z.toNat / 256 % 256 := by omega
        have e2 : (z % 65536).toNat % 256 = z.toNat % 256 := by omega
        rw [e1, e2])
      clear u16
      have q5 : IntKind.u64.wrap z = z := IntWalk.u64_in _ (by omega)
      have q1 : ¬ 9223372036854775807 < (pieces f g 0 k).length + 4 := by omega
      have q2 : ¬ 9223372036854775807 < (pieces f g 0 k).length + 4 + (textS (g k)).length := by omega
      have q3 : ¬ 9223372036854775807 < (pieces f g 0 k).length + (4 + (textS (g k)).length) + 8 := by omega
      have q4 : ¬ 9223372036854775807 < (pieces f g 0 k).length + (4 + ((textS (g k)).length + 8)) + 2 := by omega
      go_wp2_with fail
      refine (short_any _ 60 (by omega) (by omega) _).mono ?_
      rintro e wx ⟨rfl, rfl⟩
      rw [show (60 : Int).toNat = 60 from rfl, Hgk.out]
      go_wp2_with fail
      refine (Text_any _ (by unfold maxLen; omega) _).mono ?_
      rintro e wb ⟨rfl, hbb⟩
      rw [ht1]
      have Hbb := Lib.hid (bnext Hbel.out hbb)
      clear Hbel hbb hx hy
      go_wp2_with fail
      go_region_held3 (fun u => Below w.heap.size w u ∧ u.cell? ⟨xb, xo + k, none⟩ = some (.int .u32 z))
        (first | exact Hkeep.out _ Hbb.out | exact Hkeep.out _ (Below.drew Hbb.out) | (go_split_ands; first | exact Hkeep.out _ (bnext (by assumption) hb1) | exact Hkeep.out _ (bnext (by assumption) hb2) | exact Hkeep.out _ (bnext (by assumption) hb3)))
        (first | (go_at_call 17; refine (Four_any _ (by omega) (by omega) _).mono ?_; rintro e wc ⟨rfl, hb1⟩; rw [← Hfk.out]) | (go_at_call 18; refine (Eight_any _ (by omega) (by omega) _).mono ?_; rintro e wd ⟨rfl, hb2⟩; rw [← Hfk.out]) | (go_at_call 15; refine (Two_any _ (by omega) (by omega) _).mono ?_; rintro e we ⟨rfl, hb3⟩; rw [Hu.out]))
      have Hq : Hid (Below w.heap.size w we) := Lib.hid (bnext (bnext (bnext Hbb.out.drew hb1) hb2) hb3)
      go_wp2
      go_roundw
      case rel =>
        refine ⟨k + 1, by omega, ?_, by go_num, by go_num, Hq.out⟩
        have e := pieces_snoc f g k 0
        rw [Nat.zero_add] at e
        rw [e]
        simp [piece]
      case measure => simp [intOf]; omega
    · have hkN : k = N := by omega
      subst hkN
      have hle : k ≤ 20 := by omega
      have hw : (k < len0 ∧ k < len1 ∧ 20 ≤ k) ∨ (k < len0 ∧ len1 ≤ k) ∨ len0 ≤ k := by omega
      clear hN
      have Hbel := Lib.hid hbel
      clear hbel
      have hp := pieces_length f g Hgb.out k 0
      rcases hw with ⟨hw1, hw2, hw3⟩ | ⟨hw1, hw2⟩ | hw1
      all_goals
        go_wp2_with fail
        refine (Read_any _ _).mono ?_
        rintro e wb ⟨rfl, hbb, hrb, hzb⟩
        have Hrb := Lib.hid hrb
        have HbW := Lib.hid Hbel.out.size
        have Hbb := Lib.hid (bnext Hbel.out hbb)
        clear hbb hrb hzb
        generalize wr.heap.size = b at *
        go_wp2_with fail
        go_loopw [14] (fun i wr => Inv2 w b f g k i wr) (fun i _ => k - (intOf i).toNat)
        case atStart => exact ⟨0, Nat.zero_le _, rfl, Hrb.out, Hbb.out⟩
        case round =>
          clear Hrb Hbb Hbel
          obtain ⟨j, hj, rfl, hrd, hbel⟩ := hrel
          by_cases hjk : j < k
          · have hN := HN.out
            have h0 : j < len0 := by omega
            have h1 : j < len1 := by omega
            clear hN
            obtain ⟨xb, xo, rfl, hcx⟩ := Hc0.out (by omega)
            obtain ⟨yb, yo, rfl, hcy⟩ := Hc1.out (by omega)
            have hcx := hcx j h0
            have hcy := hcy j h1
            obtain ⟨z, Hz⟩ : ∃ z, Hid (a0.getD j 0 = z) := ⟨_, Lib.hid rfl⟩
            obtain ⟨t, Ht⟩ : ∃ t, Hid (a1.getD j [] = t) := ⟨_, Lib.hid rfl⟩
            have bz := Hb0.out j
            rw [Hz.out] at hcx bz
            rw [Ht.out] at hcy
            have hfj : f j = z.toNat := by rw [Hf.out, Hz.out]
            have Hgj : Hid (t.take 60 = g j) := Lib.hid (by rw [Hg.out, Ht.out])
            have Hkeep : Hid (∀ u, Below w.heap.size w u → (Below w.heap.size w u ∧ u.cell? ⟨xb, xo + j, none⟩ = some (.int .u32 z) ∧ u.cell? ⟨yb, yo + j, none⟩ = some (.string (str t)))) :=
              Lib.hid fun u hu => ⟨hu, (hu.cell (p := ⟨xb, xo + j, none⟩) (lt_of_cell hcx)).trans hcx, (hu.cell (p := ⟨yb, yo + j, none⟩) (lt_of_cell hcy)).trans hcy⟩
            have el : pieces f g j (k - j) = piece (f j) (g j) ++ pieces f g (j + 1) (k - (j + 1)) := by
              rw [show k - j = (k - (j + 1)) + 1 from by omega, pieces]
            rw [el] at hrd
            obtain ⟨e1, e2, e3, e4, e5, e6, e7, e8, e9, e10, e11, e12⟩ := read_piece (f j) (g j) (pieces f g (j + 1) (k - (j + 1))) (Hfb.out j) (Hgb.out j)
            have e3 := e3 false
            have e6 := e6 false
            have e9 := e9 false
            have e12 := e12 false
            generalize piece (f j) (g j) ++ pieces f g (j + 1) (k - (j + 1)) = L0 at *
            generalize textS (g j) ++ (be 8 (f j) ++ (be 2 (f j) ++ pieces f g (j + 1) (k - (j + 1)))) = L1 at *
            generalize be 8 (f j) ++ (be 2 (f j) ++ pieces f g (j + 1) (k - (j + 1))) = L2 at *
            generalize be 2 (f j) ++ pieces f g (j + 1) (k - (j + 1)) = L3 at *
            have v1 : ((num (takeS L0 4) : Nat) : Int) = z := by rw [e1, hfj]; omega
            have v2 : rtextS L1 = g j := e4
            have v3 : ((eightV L2 most40 : Nat) : Int) = z := by rw [e7, hfj]; omega
            have v4 : ((textN L3 : Nat) : Int) = z % 65536 := by rw [e10, hfj]; omega
            have E := Lib.hid (And.intro e2 (And.intro e3 (And.intro e5 (And.intro e6 (And.intro e8 (And.intro e9 (And.intro e11 e12)))))))
            have Hbel := Lib.hid hbel
            have Hrd : Hid (Rd wr.drew b L0 false) := Lib.hid ⟨hrd.rest, hrd.bad, hrd.free0, hrd.free1⟩
            clear hbel hcx hcy e1 e2 e3 e4 e5 e6 e7 e8 e9 e10 e11 e12 el hfj hrd
            have i1 : (j : Int) < (len0 : Int) := by omega
            have i2 : (j : Int) < (len1 : Int) := by omega
            have i3 : 0 ≤ (j : Int) := by omega
            have q1 : IntKind.i64.wrap z = z := IntWalk.i64_in _ (by omega)
            have q2 : z.tmod 65536 = z % 65536 := Int.tmod_eq_emod_of_nonneg (by omega)
            have q3 : IntKind.i64.wrap (z % 65536) = z % 65536 := IntWalk.i64_in _ (by omega)
            go_wp2_with fail
            go_region_held3 (fun u => Below w.heap.size w u ∧ u.cell? ⟨xb, xo + j, none⟩ = some (.int .u32 z) ∧ u.cell? ⟨yb, yo + j, none⟩ = some (.string (str t)))
              (first | exact Hkeep.out _ Hbel.out | exact Hkeep.out _ (Below.drew Hbel.out) | (go_split_ands; first | exact Hkeep.out _ (bmod (by assumption) hm1 HbW.out) | exact Hkeep.out _ (bmod (by assumption) hm2 HbW.out) | exact Hkeep.out _ (bmod (by assumption) hm3 HbW.out) | exact Hkeep.out _ (bmod (by assumption) hm4 HbW.out) | exact Hkeep.out _ (by assumption)))
              (first | (go_at_call 26; refine (RFour_any _ _ _ _ Hrd.out).mono ?_; rintro e wc ⟨rfl, hm1, hr1⟩; rw [E.out.1, E.out.2.1] at hr1) | (go_at_call 30; refine (RText_any _ _ _ _ hr1).mono ?_; rintro e wd ⟨rfl, hm2, hr2⟩; rw [E.out.2.2.1, E.out.2.2.2.1] at hr2) | (go_at_call 12; refine (short_any _ 60 (by omega) (by omega) _).mono ?_; rintro e wx ⟨rfl, rfl⟩; rw [show (60 : Int).toNat = 60 from rfl, Hgj.out]) | (go_at_call 28; refine (REight_any _ _ _ most40 (by decide) (by decide) _ hr2).mono ?_; rintro e we ⟨rfl, hm3, hr3⟩; rw [E.out.2.2.2.2.1, E.out.2.2.2.2.2.1] at hr3) | (go_at_call 24; refine (RTwo_any _ _ _ _ hr3).mono ?_; rintro e wf ⟨rfl, hm4, hr4⟩; rw [E.out.2.2.2.2.2.2.1, E.out.2.2.2.2.2.2.2] at hr4))
            have Hq : Hid (Below w.heap.size w wf) := Lib.hid (bmod (bmod (bmod (bmod Hbel.out.drew hm1 HbW.out) hm2 HbW.out) hm3 HbW.out) hm4 HbW.out)
            have Hr := Lib.hid hr4
            clear hr1 hr2 hr3 hr4 hm1 hm2 hm3 hm4
            go_wp2
            go_roundw
            case rel => exact ⟨j + 1, by omega, by go_num, Hr.out, Hq.out⟩
            case measure => simp [intOf]; omega
          · have hjk2 : j = k := by omega
            subst hjk2
            rw [Nat.sub_self, pieces] at hrd
            have en : endE [] false = 0 := by decide
            have Hbel := Lib.hid hbel
            clear hbel
            go_wp2_with fail
            refine (End_any _ _ _ _ hrd).mono ?_
            rintro e wx ⟨rfl, rfl⟩
            rw [en]
            go_wp2_with fail
            refine (Left_any _ _ _ _ hrd).mono ?_
            rintro e wx ⟨rfl, rfl⟩
            clear hrd
            by_cases hj0 : j = 0
            · have q0 : ((j : Int) == 0) = true := by simp; omega
              go_wp2
              go_ret
              exact ⟨rfl, Hbel.out⟩
            · have q0 : ((j : Int) == 0) = false := by simp; omega
              have hP : 1 ≤ (pieces f g 0 j).length ∧ (pieces f g 0 j).length ≤ 1520 := by omega
              rcases (by omega : a2 < 0 ∨ 0 ≤ a2) with hs2 | hs2
              · have e0 : (-(a2 + 1)).tmod ((pieces f g 0 j).length : Int) = (-(a2 + 1)) % ((pieces f g 0 j).length : Int) := Int.tmod_eq_emod_of_nonneg (by omega)
                have e1 : (-(a2 + 1)) % ((pieces f g 0 j).length : Int) < ((pieces f g 0 j).length : Int) := Int.emod_lt_of_pos _ (by omega)
                have e2 : 0 ≤ (-(a2 + 1)) % ((pieces f g 0 j).length : Int) := Int.emod_nonneg _ (by omega)
                rw [Int.neg_tmod] at e0
                rw [← e0] at e1 e2
                have e3 : (a2 + 1).tmod ((pieces f g 0 j).length : Int) ≤ 0 := by omega
                have e4 : -(a2 + 1).tmod ((pieces f g 0 j).length : Int) ≤ ((pieces f g 0 j).length : Int) := by omega
                have Hcut := Lib.hid (steps_cut f g Hfb.out Hgb.out j 0 (-(a2 + 1).tmod ((pieces f g 0 j).length : Int)).toNat (by omega))
                clear e0 e1 e2
                obtain ⟨L0, HL0⟩ : ∃ L0, Hid (List.take (-(a2 + 1).tmod ((pieces f g 0 j).length : Int)).toNat (pieces f g 0 j) = L0) := ⟨_, Lib.hid rfl⟩
                rw [HL0.out] at Hcut
                go_wp2_with fail
                rw [HL0.out]
                refine (Read_any _ _).mono ?_
                rintro e wc ⟨rfl, hbc, hrc, hzc⟩
                have Hrc := Lib.hid hrc
                have HcW := Lib.hid Hbel.out.size
                have Hbc := Lib.hid (bnext Hbel.out hbc)
                clear hbc hrc hzc Hbel
                generalize wr.heap.size = c at *
                go_wp2_with fail
                go_loopw [17] (fun i wr => Inv3 w c L0 j i wr) (fun i _ => j - (intOf i).toNat)
                case atStart => exact ⟨0, Nat.zero_le _, rfl, Hrc.out, Hbc.out⟩
                case round =>
                  clear Hrc Hbc
                  obtain ⟨i, hi, rfl, hrd, hbel⟩ := hrel
                  by_cases hij : i < j
                  · have Hbel := Lib.hid hbel
                    clear hbel
                    go_wp2_with fail
                    refine (RFour_any _ _ _ _ hrd).mono ?_
                    rintro e w1 ⟨rfl, hm1, hr1⟩
                    have B1 := Lib.hid (bmod Hbel.out hm1 HcW.out)
                    clear hrd Hbel hm1
                    go_wp2_with fail
                    refine (RText_any _ _ _ _ hr1).mono ?_
                    rintro e w2 ⟨rfl, hm2, hr2⟩
                    have B2 := Lib.hid (bmod B1.out hm2 HcW.out)
                    clear hr1 B1 hm2
                    go_wp2_with fail
                    refine (REight_any _ _ _ most40 (by decide) (by decide) _ hr2).mono ?_
                    rintro e w3 ⟨rfl, hm3, hr3⟩
                    have B3 := Lib.hid (bmod B2.out hm3 HcW.out)
                    clear hr2 B2 hm3
                    go_wp2_with fail
                    refine (RTwo_any _ _ _ _ hr3).mono ?_
                    rintro e w4 ⟨rfl, hm4, hr4⟩
                    have B4 := Lib.hid (bmod B3.out hm4 HcW.out)
                    have R4 : Hid (Rd w4 c (stepsL L0 (i + 1)) (stepsB L0 false (i + 1))) := Lib.hid (by rw [stepsL, stepsB, stepL, stepB]; exact hr4)
                    clear hr3 B3 hm4 hr4
                    go_wp2
                    go_roundw
                    case rel => exact ⟨i + 1, by omega, by go_num, R4.out, B4.out⟩
                    case measure => simp [intOf]; omega
                  · have hij2 : i = j := by omega
                    subst hij2
                    rw [Hcut.out.1, Hcut.out.2] at hrd
                    have en2 : endE [] true = 10 := by decide
                    have Hbel := Lib.hid hbel
                    clear hbel
                    go_wp2_with fail
                    refine (End_any _ _ _ _ hrd).mono ?_
                    rintro e wx ⟨rfl, rfl⟩
                    rw [en2]
                    go_wp2_with fail
                    refine (Left_any _ _ _ _ hrd).mono ?_
                    rintro e wx ⟨rfl, rfl⟩
                    clear hrd
                    go_wp2
                    go_ret
                    exact ⟨rfl, Hbel.out⟩
              · have e1 : a2 % ((pieces f g 0 j).length : Int) < ((pieces f g 0 j).length : Int) := Int.emod_lt_of_pos _ (by omega)
                have e2 : 0 ≤ a2 % ((pieces f g 0 j).length : Int) := Int.emod_nonneg _ (by omega)
                have Hcut := Lib.hid (steps_cut f g Hfb.out Hgb.out j 0 (a2 % ((pieces f g 0 j).length : Int)).toNat (by omega))
                obtain ⟨L0, HL0⟩ : ∃ L0, Hid (List.take (a2 % ((pieces f g 0 j).length : Int)).toNat (pieces f g 0 j) = L0) := ⟨_, Lib.hid rfl⟩
                rw [HL0.out] at Hcut
                go_wp2_with fail
                rw [HL0.out]
                refine (Read_any _ _).mono ?_
                rintro e wc ⟨rfl, hbc, hrc, hzc⟩
                have Hrc := Lib.hid hrc
                have HcW := Lib.hid Hbel.out.size
                have Hbc := Lib.hid (bnext Hbel.out hbc)
                clear hbc hrc hzc Hbel
                generalize wr.heap.size = c at *
                go_wp2_with fail
                go_loopw [17] (fun i wr => Inv3 w c L0 j i wr) (fun i _ => j - (intOf i).toNat)
                case atStart => exact ⟨0, Nat.zero_le _, rfl, Hrc.out, Hbc.out⟩
                case round =>
                  clear Hrc Hbc
                  obtain ⟨i, hi, rfl, hrd, hbel⟩ := hrel
                  by_cases hij : i < j
                  · have Hbel := Lib.hid hbel
                    clear hbel
                    go_wp2_with fail
                    refine (RFour_any _ _ _ _ hrd).mono ?_
                    rintro e w1 ⟨rfl, hm1, hr1⟩
                    have B1 := Lib.hid (bmod Hbel.out hm1 HcW.out)
                    clear hrd Hbel hm1
                    go_wp2_with fail
                    refine (RText_any _ _ _ _ hr1).mono ?_
                    rintro e w2 ⟨rfl, hm2, hr2⟩
                    have B2 := Lib.hid (bmod B1.out hm2 HcW.out)
                    clear hr1 B1 hm2
                    go_wp2_with fail
                    refine (REight_any _ _ _ most40 (by decide) (by decide) _ hr2).mono ?_
                    rintro e w3 ⟨rfl, hm3, hr3⟩
                    have B3 := Lib.hid (bmod B2.out hm3 HcW.out)
                    clear hr2 B2 hm3
                    go_wp2_with fail
                    refine (RTwo_any _ _ _ _ hr3).mono ?_
                    rintro e w4 ⟨rfl, hm4, hr4⟩
                    have B4 := Lib.hid (bmod B3.out hm4 HcW.out)
                    have R4 : Hid (Rd w4 c (stepsL L0 (i + 1)) (stepsB L0 false (i + 1))) := Lib.hid (by rw [stepsL, stepsB, stepL, stepB]; exact hr4)
                    clear hr3 B3 hm4 hr4
                    go_wp2
                    go_roundw
                    case rel => exact ⟨i + 1, by omega, by go_num, R4.out, B4.out⟩
                    case measure => simp [intOf]; omega
                  · have hij2 : i = j := by omega
                    subst hij2
                    rw [Hcut.out.1, Hcut.out.2] at hrd
                    have en2 : endE [] true = 10 := by decide
                    have Hbel := Lib.hid hbel
                    clear hbel
                    go_wp2_with fail
                    refine (End_any _ _ _ _ hrd).mono ?_
                    rintro e wx ⟨rfl, rfl⟩
                    rw [en2]
                    go_wp2_with fail
                    refine (Left_any _ _ _ _ hrd).mono ?_
                    rintro e wx ⟨rfl, rfl⟩
                    clear hrd
                    go_wp2
                    go_ret
                    exact ⟨rfl, Hbel.out⟩
theorem own : ownKnob Try.prog.godebug = none := by kernel_rfl
theorem laidOut : laidOutB Try.prog = true := by kernel_rfl
set_option maxRecDepth 100000 in
theorem lifted (os : Os) (started : os.Started) (H : Type) (enc : TypeId × Value → H) :
    ReturnsInHanded {} Try.checked os 6 .any (Rows.packBackSpec.pre6 enc Try.prog Try.f6 Rows.packBackRow.domain false) (Rows.packBackSpec.post enc Try.prog Try.f6 false true false false) := by
  refine returnsInHanded_of_change (C := Try.checked) own started (by kernel_rfl) Try.func6
    (ChangeSpec.witness6 (enc := enc) (C := Try.checked) false ⟨#[], #[.slice none 0 0, .slice none 0 0, .int .i64 0], []⟩ 8 (by kernel_rfl) (by kernel_rfl) (by kernel_rfl) (by kernel_rfl)) ?_
  intro W base args ds gs before hval0 hW hcnd _
  have hval : ∀ (j : Nat) t v, Try.f6.params[j]? = some t → args[j]? = some v → Value.okWide Try.prog W .any base t v := hval0
  have hW' := hW
  obtain ⟨p, q, hA0, hV, rfl, hfz, hnd⟩ := hW
  have hA : DataW.TrodAll enc Try.prog W 0 (fun _ => true) true Try.f6.params.toList args.toList ds p := hA0
  rw [Try.params6] at hA hval
  obtain ⟨v0, vs0, d0, ds0, p0, q0, hargs, rfl, rfl, h0, r0⟩ := trodAll_cons hA
  obtain ⟨v1, vs1, d1, ds1, p1, q1, rfl, rfl, rfl, h1, r1⟩ := trodAll_cons r0
  obtain ⟨v2, vs2, d2, ds2, p2, q2, rfl, rfl, rfl, h2, r2⟩ := trodAll_cons r1
  obtain ⟨rfl, rfl, rfl⟩ := trodAll_nil r2
  obtain rfl : args = #[v0, v1, v2] := by cases args; simp_all
  obtain ⟨x0, len0, cap0, a0, rfl, w0⟩ := opens_ints Try.underlying50 Try.underlying33 (by kernel_rfl) (hval 0 50 v0 rfl rfl) h0
  obtain ⟨x1, len1, cap1, a1, rfl, w1⟩ := opens_strs Try.underlying51 Try.underlying9 (by kernel_rfl) (hval 1 51 v1 rfl rfl) h1
  obtain ⟨a2, rfl, rfl, rfl, w2⟩ := open_int Try.underlying3 (hval 2 3 v2 rfl rfl) h2
  clear hA0 hval0
  refine (walk x0 len0 cap0 a0 x1 len1 cap1 a1 a2 W w0 w1 w2).mono fun e W' ⟨he, bel⟩ => ?_
  subst he
  exact ⟨_, rfl, law_post laidOut (by rw [Try.params6]; decide +kernel) rfl Try.underlying4 rfl hW' (fun _ => rfl) bel⟩
theorem over : Rows.packBackRow.holds Try.pinned (OpenSpec.ofChange Rows.packBackSpec) :=
  OpenClaim.holds_of_wide 6 Try.f6 rfl rfl rfl rfl rfl rfl rfl ⟨rfl, rfl, rfl, rfl, rfl⟩ rfl rfl rfl rfl rfl (by kernel_rfl) Try.func6 (by kernel_rfl)
    (of_decide_eq_true (by kernel_rfl)) (by unfold Func.isWrapper; first | (rw [if_pos (by decide +kernel)]; kernel_rfl) | (rw [if_neg (by decide +kernel)]; exact ⟨rfl, rfl⟩))
    (fun os started H enc _ => lifted os started H enc)
theorem proved : Rows.PackBackSaid := over
end Go.Proofs.Ytofafnobgkhdnaa.packBack
