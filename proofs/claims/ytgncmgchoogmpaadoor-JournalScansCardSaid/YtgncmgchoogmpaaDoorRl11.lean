/- What the document's lines and Record of layer 11 give, at this translation. -/
import Derived.Test.YtgncmgchoogmpaaDoorRk11
namespace Go.Proofs.YtgncmgchoogmpaaDoor
open Go.RowKit

/-- Changes whose sectors are numbers that a line can say, and whose texts are short. -/
def Sh (l : List Ch) : Prop := l.length ≤ 60 ∧ ∀ c ∈ l, 0 ≤ c.1 ∧ c.1 < 4294967296 ∧ c.2.length ≤ 600
set_option maxRecDepth 100000 in
set_option maxHeartbeats 4000000 in
theorem xlines_any (seq : Nat) (hseq : seq ≤ 1099511627776) (A : Option Addr) (n c : Nat) (l : List Ch) (w : World) (h : IsG w 2 encC A n l) (hs : Sh l) :
    Calls Tryd.prog 33 #[.int .i64 (seq : Int), .slice A n c] w fun e w' => e = .returned (.tuple #[.string (str (firstS seq l)), .string (str (markS seq l))]) ∧ Below w.heap.size w w' := by
  have hlen := Lib.hid h.length
  have hn60 : n ≤ 60 := by have := hs.1; rw [h.length] at this; exact this
  have HL := Lib.hid h
  have HSh := Lib.hid hs.2
  have q8 : IntKind.u64.wrap (seq : Int) = (seq : Int) := IntWalk.u64_in _ (by omega)
  have q2 : IntKind.u64.wrap (n : Int) = (n : Int) := IntWalk.u64_in _ (by omega)
  have hb8 := be_length 8 seq
  have hb2 := be_length 2 n
  obtain ⟨H0, HH0⟩ : ∃ x, Hid (signD ++ (be 8 seq ++ be 2 n) = x) := ⟨_, Lib.hid rfl⟩
  have hH0 : H0.length = 14 := by rw [← HH0.out]; simp [signD, be_length]
  have hcat : Hid ((⟨#[76, 71, 68, 49]⟩ : ByteArray) ++ str (be 8 seq) ++ str (be 2 n) = str H0) := Lib.hid (by
    rw [← HH0.out, show (⟨#[76, 71, 68, 49]⟩ : ByteArray) = str signD from rfl, str_append, str_append, List.append_assoc])
  clear h hs
  go_enter Tryd.func33, Tryd.ntmps33
  go_wp2_with fail
  refine (Num8_any _ (by omega) (by omega) _).mono ?_
  rintro e w1 ⟨rfl, hb1⟩
  rw [Int.toNat_natCast]
  go_wp2_with fail
  refine (Num2_any _ (by omega) (by omega) _).mono ?_
  rintro e w2 ⟨rfl, hb2'⟩
  rw [Int.toNat_natCast]
  have B2 := Lib.hid (bnext hb1 hb2')
  clear hb1 hb2'
  go_wp2_with fail
  rw [hcat.out]
  have hle0 : ∀ k, (sects (l.take k)).length ≤ 240 := fun k => by rw [sects_length, List.length_take]; have := hlen.out; omega
  have Hle0 := Lib.hid hle0
  clear hle0
  go_loopw [6, 7] (fun s i wr => ∃ (k : Nat), k ≤ n ∧ i = .int .i64 k ∧ s = .string (str (H0 ++ sects (l.take k))) ∧ Hid (Below w.heap.size w wr)) (fun _ i _ => n - (intOf i).toNat)
  case atStart => exact ⟨0, Nat.zero_le _, rfl, by rw [List.take_zero, sects_nil, List.append_nil], B2⟩
  case round =>
    obtain ⟨k, hk, rfl, rfl, HB⟩ := hrel
    by_cases hlt : k < n
    · obtain ⟨g, off, rfl, hg, hc⟩ := (HL.out.below HB.out).cells (by omega)
      obtain ⟨x, hx⟩ : ∃ x, l[k]? = some x := ⟨_, List.getElem?_eq_getElem (by have := hlen.out; omega)⟩
      have c0 := hc k x 0 (.int .i64 x.1) hx rfl
      rw [Nat.add_zero] at c0
      obtain ⟨hx0, hx1, hx2⟩ := HSh.out x (List.mem_of_getElem? hx)
      have hst : Hid (l.take (k + 1) = l.take k ++ [x]) := Lib.hid (by
        obtain ⟨hk', he⟩ := List.getElem?_eq_some_iff.1 hx
        rw [List.take_succ_eq_append_getElem hk', he])
      obtain ⟨S0, HS0⟩ : ∃ x, Hid (H0 ++ sects (l.take k) = x) := ⟨_, Lib.hid rfl⟩
      have hsl : S0.length ≤ 254 := by rw [← HS0.out, List.length_append, hH0]; have := Hle0.out k; omega
      have hbe := be_length 4 x.1.toNat
      have hcv : IntKind.u64.wrap x.1 = x.1 := IntWalk.u64_in _ (by omega)
      have hkI : (k : Int) < (n : Int) := by omega
      rw [HS0.out]
      clear hc hx hg
      go_wp2_with fail
      refine (Num4_any _ hx0 (by omega) _).mono ?_
      rintro e w4 ⟨rfl, hb4⟩
      have B4 := Lib.hid (bnext HB.out hb4)
      clear hb4
      go_wp2
      go_roundw
      case rel => exact ⟨k + 1, by omega, by go_num, by rw [hst.out, sects_snoc, ← List.append_assoc, HS0.out], B4⟩
      case measure => simp [intOf]; omega
    · obtain rfl : k = n := by omega
      have htk : Hid (l.take k = l) := Lib.hid (List.take_of_length_le (by have := hlen.out; omega))
      rw [htk.out]
      have hkI : ¬ (k : Int) < (k : Int) := by omega
      have hD : Hid (H0 ++ sects l = lineD seq l) := Lib.hid (by rw [lineD, ← HH0.out, hlen.out]; simp only [List.append_assoc])
      rw [hD.out]
      go_wp2_with fail
      refine (XFill_any _ (by rw [lineD_length, hlen.out]; unfold maxLen; omega) _).mono ?_
      rw [show fillS (lineD seq l) = firstS seq l from rfl]
      rintro e w3 ⟨rfl, hb3⟩
      have B3 := Lib.hid (bnext HB.out hb3)
      clear hb3
      obtain ⟨F, HF⟩ : ∃ x, Hid (firstS seq l = x) := ⟨_, Lib.hid rfl⟩
      rw [HF.out]
      have hF : Hid (F.length = 512) := Lib.hid (by rw [← HF.out]; exact firstS_length _ _ (by rw [hlen.out]; exact hn60))
      obtain ⟨w4, HW4⟩ : ∃ x, Hid (w3.alloc (.cells #[.string (str F)] 9) = x) := ⟨_, Lib.hid rfl⟩
      have B4 : Hid (Below w.heap.size w w4) := Lib.hid (by rw [← HW4.out]; exact balloc B3.out _)
      have R4 : Hid (RG w4 1 encS (.slice (some ⟨w3.heap.size, 0, none⟩) 1 1) [F]) := Lib.hid (by rw [← HW4.out]; exact RG.one w3 F _)
      have N4 : Hid (∀ g, blk (.slice (some ⟨w3.heap.size, 0, none⟩) 1 1) = some g → w.heap.size ≤ g) := Lib.hid (fun g hg => by
        simp only [blk, Option.some.injEq] at hg
        have := B3.out.size
        omega)
      obtain ⟨T4, HT4⟩ : ∃ x, Hid (Value.slice (some ⟨w3.heap.size, 0, none⟩) 1 1 = x) := ⟨_, Lib.hid rfl⟩
      rw [HT4.out] at R4 N4
      go_wp2_with fail
      rw [HW4.out, HT4.out]
      clear HT4 HW4 B3 hD
      go_loopw [10, 11] (fun v i wr => ∃ (j : Nat) (T : Value), j ≤ k ∧ i = .int .i64 j ∧ v = T ∧ Hid (RG wr 1 encS T (F :: (l.take j).map Prod.snd)) ∧ Hid (∀ g, blk T = some g → w.heap.size ≤ g) ∧ Hid (Below w.heap.size w wr)) (fun _ i _ => k - (intOf i).toNat)
      case atStart => exact ⟨0, T4, Nat.zero_le _, rfl, rfl, R4, N4, B4⟩
      case round =>
        obtain ⟨j, T, hj, rfl, rfl, HRj, HNj, HBj⟩ := hrel
        by_cases hltj : j < k
        · obtain ⟨g, off, rfl, hg, hc⟩ := (HL.out.below HBj.out).cells (by omega)
          obtain ⟨x, hx⟩ : ∃ x, l[j]? = some x := ⟨_, List.getElem?_eq_getElem (by have := hlen.out; omega)⟩
          have c1 := hc j x 1 (.string (str x.2)) hx rfl
          have hst : Hid (l.take (j + 1) = l.take j ++ [x]) := Lib.hid (by
            obtain ⟨hk', he⟩ := List.getElem?_eq_some_iff.1 hx
            rw [List.take_succ_eq_append_getElem hk', he])
          have hjI : (j : Int) < (k : Int) := by omega
          clear hc hx hg
          obtain ⟨w5, HW5⟩ : ∃ y, Hid (wr.alloc (.cells #[.string (str x.2)] 9) = y) := ⟨_, Lib.hid rfl⟩
          obtain ⟨p5, Hp5⟩ : ∃ y, Hid (wr.heap.size = y) := ⟨_, Lib.hid rfl⟩
          have B5 : Hid (Below wr.heap.size wr w5) := Lib.hid (by rw [← HW5.out]; exact balloc (Below.refl _ _) _)
          have G5 : Hid (IsG w5 1 encS (some ⟨p5, 0, none⟩) 1 [x.2]) := Lib.hid (by rw [← HW5.out, ← Hp5.out]; exact isG_one wr x.2 _)
          obtain ⟨T6, w6, hr6, r6, a6⟩ := appG stInf encS_ok (HRj.out.below B5.out) (c := 1) G5.out (by simp; omega) (by decide) 29
          have Hr6 := Lib.hid hr6
          have HB6 : Hid (Below w.heap.size w w6) := Lib.hid (Mod.below (bnext HBj.out B5.out) a6.mod (bnext HBj.out B5.out).size HNj.out)
          have HR6 : Hid (RG w6 1 encS T6 (F :: (l.take (j + 1)).map Prod.snd)) := Lib.hid (by rw [hst.out, List.map_append]; exact r6)
          have HN6 : Hid (∀ g, blk T6 = some g → w.heap.size ≤ g) := Lib.hid (fun g hg => by
            rcases a6.blk with e | ⟨g', e, h'⟩
            · exact HNj.out g (e ▸ hg)
            · rw [e] at hg; injection hg with hg; have := HBj.out.size; have := B5.out.size; omega)
          clear hr6 r6 a6
          go_wp2_with (at_builtin; rw [HW5.out, Hp5.out]; refine wpList_append_run rfl (.tmp 51) (.tmp 57) 29 rfl (by exact Hr6.out) ?_)
          go_roundw
          case rel => exact ⟨j + 1, T6, by omega, by go_num, rfl, HR6, HN6, HB6⟩
          case measure => simp [intOf]; omega
        · obtain rfl : j = k := by omega
          rw [htk.out] at HRj
          have hjI : ¬ (j : Int) < (j : Int) := by omega
          obtain ⟨ts, Hts⟩ : ∃ x, Hid (textsS seq l = x) := ⟨_, Lib.hid rfl⟩
          have htl : Hid (ts.length = j + 1) := Lib.hid (by rw [← Hts.out, textsS, List.length_cons, List.length_map, hlen.out])
          have R7 : Hid (RG wr 1 encS u10 ts) := Lib.hid (by rw [← Hts.out, textsS, HF.out]; exact HRj.out)
          obtain ⟨g, off, cap, rfl, hg⟩ := R7.out.open htl.out (by omega)
          have h600 : Hid (∀ s ∈ ts, s.length ≤ 600) := Lib.hid (fun s hs => by
            rw [← Hts.out, textsS, HF.out] at hs
            rcases List.mem_cons.1 hs with rfl | hs
            · rw [hF.out]; omega
            · obtain ⟨c, hc, rfl⟩ := List.mem_map.1 hs
              exact (HSh.out c hc).2.2)
          have I7 : Hid (IsStrs wr (some ⟨g, off, none⟩) (j + 1) ts) := Lib.hid ((R7.out.is encS_ok).1.strs (fun s hs => Nat.le_trans (h600.out s hs) (by decide)))
          clear HRj R7 htk Hle0 HL hg
          go_wp2_with fail
          refine (Num8_any _ (by omega) (by omega) _).mono ?_
          rw [Int.toNat_natCast]
          rintro e w7 ⟨rfl, hb7⟩
          go_wp2_with fail
          refine (Num2_any _ (by omega) (by omega) _).mono ?_
          rw [Int.toNat_natCast]
          rintro e w8 ⟨rfl, hb8'⟩
          have B8 := Lib.hid (bnext HBj.out (bnext hb7 hb8'))
          have I8 := Lib.hid (I7.out.below (bnext hb7 hb8'))
          clear hb7 hb8' I7
          go_wp2_with fail
          refine (XRow_any _ _ cap ts _ I8.out (by omega) h600.out).mono ?_
          obtain ⟨cr, Hcr⟩ : ∃ x, Hid (rows 0#32 ts = x) := ⟨_, Lib.hid rfl⟩
          rw [Hcr.out]
          rintro e w9 ⟨rfl, hb9⟩
          have B9 := Lib.hid (bnext B8.out hb9)
          clear hb9 I8
          have u0 := uv_lo cr
          have u1 := uv_hi cr
          have ucv : IntKind.u64.wrap (uv cr) = uv cr := IntWalk.u64_in _ (by omega)
          have hb4 := be_length 4 cr.toNat
          go_wp2_with fail
          refine (Num4_any _ u0 (by omega) _).mono ?_
          rw [show (uv cr).toNat = cr.toNat from rfl]
          rintro e wa ⟨rfl, hba⟩
          have Ba := Lib.hid (bnext B9.out hba)
          clear hba
          go_wp2_with fail
          have hC : Hid ((⟨#[76, 71, 67, 49]⟩ : ByteArray) ++ str (be 8 seq) ++ str (be 2 j) ++ str (be 4 cr.toNat) = str (lineC seq l)) := Lib.hid (by
            rw [lineC, hlen.out, Hts.out, Hcr.out, show (⟨#[76, 71, 67, 49]⟩ : ByteArray) = str signC from rfl, str_append, str_append, str_append, List.append_assoc, List.append_assoc])
          rw [hC.out]
          refine (XFill_any _ (by rw [lineC_length]; unfold maxLen; omega) _).mono ?_
          rw [show fillS (lineC seq l) = markS seq l from rfl]
          rintro e wb ⟨rfl, hbb⟩
          have Bb := Lib.hid (bnext Ba.out hbb)
          clear hbb
          go_wp2
          go_ret2
          exact ⟨by rw [HF.out]; rfl, Bb.out⟩
end Go.Proofs.YtgncmgchoogmpaaDoor
