/- What package journal's small functions give, at this translation: lines' sectors, heads, rooms. -/
import Derived.Test.YtgncmgchoogmpaaDoorJp11
import Derived.Test.YtgncmgchoogmpaaDoorPack
import Derived.Laws.ResultCell
namespace Go.Proofs.YtgncmgchoogmpaaDoor
open Go.RowKit

theorem jfill_any (l : List UInt8) (hl : l.length ≤ maxLen) (w : World) :
    Calls Tryd.prog 23 #[.string (str l)] w fun e w' => e = .returned (.string (str (fillS l))) ∧ Below w.heap.size w w' := by
  go_enter Tryd.func23, Tryd.ntmps23
  go_wp2_with fail
  refine (Fill_any _ hl _).mono ?_
  rintro e w1 ⟨rfl, hb⟩
  go_wp2
  go_ret
  exact ⟨rfl, hb⟩
theorem jHead_any (d : Int) (w : World) :
    Calls Tryd.prog 9 #[.int .i64 d] w fun e w' => e = .returned (.string (str (headS (clampD d)))) ∧ Below w.heap.size w w' := by
  obtain ⟨x, hx⟩ : ∃ x, Hid (clampD d = x) := ⟨_, Lib.hid rfl⟩
  have hle := clampD_le d
  rw [hx.out] at hle ⊢
  have hm : min (max d 0) 1099511627776 = (x : Int) := by have := hx.out; unfold clampD at this; omega
  have hc : IntKind.u64.wrap (x : Int) = (x : Int) := IntWalk.u64_in _ (by omega)
  have hbe := be_length 8 x
  have hl : signH.length = 4 := rfl
  clear hx
  go_enter Tryd.func9, Tryd.ntmps9
  go_wp2_with fail
  refine (Eight_any _ (by omega) (by omega) _).mono ?_
  rintro e w1 ⟨rfl, hb⟩
  rw [Int.toNat_natCast]
  go_wp2_with fail
  rw [show (⟨#[76, 71, 72, 49]⟩ : ByteArray) ++ str (be 8 x) = str (lineH x) from str_append signH (be 8 x)]
  refine (jfill_any _ (by rw [lineH_length]; unfold maxLen; omega) _).mono ?_
  rintro e w2 ⟨rfl, hb2⟩
  go_wp2
  go_ret
  exact ⟨rfl, bnext hb hb2⟩
theorem jRoom_any (n : Int) (w : World) :
    Calls Tryd.prog 22 #[.int .i64 n] w fun e w' => e = .returned (.int .i64 (roomI n)) ∧ w = w' := by
  have hw : IntKind.i64.wrap (min (max n 3) 63 - 3) = min (max n 3) 63 - 3 := IntWalk.i64_in _ (by omega)
  go_enter Tryd.func22, Tryd.ntmps22
  go_wp2
  go_ret
  exact ⟨rfl, rfl⟩
/-- A reader of what a line says behind its sign. -/
theorem jopen_any (l : List UInt8) (w : World) :
    Calls Tryd.prog 25 #[.string (str l)] w fun e w' => ∃ b, e = .returned (.pointer (some ⟨b, 0, none⟩)) ∧ w.heap.size ≤ b ∧ Below w.heap.size w w' ∧ Rd w' b (takeL (openS l) 4) (takeB (openS l) false 4) := by
  go_enter Tryd.func25, Tryd.ntmps25
  go_wp2_with fail
  refine (Open_any _ _).mono ?_
  rintro e w1 ⟨rfl, hb⟩
  go_wp2_with fail
  refine (Read_any _ _).mono ?_
  rintro e w2 ⟨rfl, hb2, hr, hz⟩
  have Hb := Lib.hid (bnext hb hb2)
  have Hs := Lib.hid hb.size
  obtain ⟨b, Hq⟩ : ∃ b, Hid (w1.heap.size = b) := ⟨_, Lib.hid rfl⟩
  rw [Hq.out] at hr ⊢
  clear hb hb2 hz
  go_wp2_with fail
  refine (RFour_any _ _ _ _ hr).mono ?_
  rintro e w3 ⟨rfl, hm, hr2⟩
  have Hm := Lib.hid hm
  have Hr := Lib.hid hr2
  clear hm hr hr2
  go_wp2
  go_ret
  exact ⟨b, rfl, by have := Hs.out; have := Hq.out; omega, bmod Hb.out Hm.out (by have := Hs.out; have := Hq.out; omega), Hr.out⟩
theorem jDone_any (l : List UInt8) (w : World) :
    Calls Tryd.prog 10 #[.string (str l)] w fun e w' => ∃ (d : Nat) (ok : Bool), e = .returned (.tuple #[.int .i64 (d : Int), .bool ok]) ∧ DoneR l d ok ∧ Below w.heap.size w w' := by
  have hR := Lib.hid (done_prog l)
  obtain ⟨x, Hx⟩ : ∃ x, Hid (readD l = x) := ⟨_, Lib.hid rfl⟩
  have hle : x ≤ 1099511627776 := by rw [← Hx.out]; exact eightV_le _
  have hcl : Hid (clampD (x : Int) = x) := Lib.hid (clampD_of x hle)
  obtain ⟨q, Hq⟩ : ∃ q, Hid ((headS x == l) = q) := ⟨_, Lib.hid rfl⟩
  rw [Hx.out, Hq.out] at hR
  have hq := Hq.out
  go_enter Tryd.func10, Tryd.ntmps10
  go_wp2_with fail
  refine (jopen_any _ _).mono ?_
  rintro e w1 ⟨b, rfl, hsz, hb, hr⟩
  have Hb := Lib.hid hb
  have Hs := Lib.hid hsz
  clear hb hsz
  go_wp2_with fail
  refine (REight_any _ _ _ _ (by omega) (by omega) _ hr).mono ?_
  rintro e w2 ⟨rfl, hm, _⟩
  rw [show eightV (takeL (openS l) 4) 1099511627776 = x from Hx.out]
  have Hb2 := Lib.hid (bmod Hb.out hm Hs.out)
  clear hm hr
  go_wp2_with fail
  refine (jHead_any _ _).mono ?_
  rw [hcl.out]
  rintro e w3 ⟨rfl, hb3⟩
  have Hb3 := Lib.hid (bnext Hb2.out hb3)
  clear hb3
  cases q
  · go_wp2
    go_ret2
    exact ⟨0, false, rfl, hR.out, Hb3.out⟩
  · go_wp2
    go_ret2
    exact ⟨x, true, rfl, hR.out, Hb3.out⟩
/-! ### rows -/
theorem jrow_any (A : Option Addr) (n c : Nat) (l : List Ch) (w : World) (h : IsG w 2 encC A n l) :
    Calls Tryd.prog 38 #[.slice A n c] w fun e w' => e = .returned (.bool (rowB l)) ∧ Below w.heap.size w w' := by
  have hm := h.small
  have hlen := h.length
  have HL := Lib.hid h
  clear h
  go_enter Tryd.func38, Tryd.ntmps38
  go_wp2
  go_loopw [3, 8] (fun a i wr => ∃ (k : Nat) (z : Int), k ≤ n ∧ i = .int .i64 k ∧ a = .int .i64 z ∧ rowB l = rowFrom z (l.drop k) ∧ Below w.heap.size w wr) (fun _ i _ => n - (intOf i).toNat)
  case atStart => exact ⟨0, -1, Nat.zero_le _, rfl, rfl, rfl, Below.refl _ _⟩
  case round =>
    obtain ⟨k, z, hk, rfl, rfl, hz, hb⟩ := hrel
    have Hz := Lib.hid hz
    have Hb := Lib.hid hb
    clear hz hb
    by_cases hlt : k < n
    · obtain ⟨g, off, rfl, hg, hc⟩ := (HL.out.below Hb.out).cells (by omega)
      obtain ⟨x, hx⟩ : ∃ x, l[k]? = some x := ⟨_, List.getElem?_eq_getElem (by omega)⟩
      have c0 := hc k x 0 (.int .i64 x.1) hx rfl
      rw [Nat.add_zero] at c0
      have c1 := hc k x 1 (.string (str x.2)) hx rfl
      have hd : Hid (l.drop k = x :: l.drop (k + 1)) := Lib.hid (by
        obtain ⟨hk', he⟩ := List.getElem?_eq_some_iff.1 hx
        rw [List.drop_eq_getElem_cons hk', he])
      clear hc hx
      by_cases h1 : x.1 ≤ z
      · go_wp2
        go_ret
        refine ⟨ret_bool ?_, (balloc Hb.out _)⟩
        rw [Hz.out, hd.out, rowFrom, show decide (z < x.1) = false by simp; omega, Bool.false_and]
      · by_cases h2 : 65536 ≤ x.1
        · go_wp2
          go_ret
          refine ⟨ret_bool ?_, (balloc Hb.out _)⟩
          rw [Hz.out, hd.out, rowFrom, show decide (x.1 < 65536) = false by simp; omega, Bool.false_and, Bool.and_false]
        · have hxl : (x.2.length : Int) ≤ 9223372036854775807 ∨ True := .inr trivial
          by_cases h3 : x.2.length = 512
          · have q3 : ((x.2.length : Int) != 512) = false := by rw [h3]; rfl
            go_wp2
            go_roundw
            case rel =>
              refine ⟨k + 1, x.1, by omega, by go_num, rfl, ?_, balloc Hb.out _⟩
              rw [Hz.out, hd.out, rowFrom, show decide (z < x.1) = true by simp; omega, show decide (x.1 < 65536) = true by simp; omega, h3]
              rfl
            case measure => simp [intOf]; omega
          · have q3 : ((x.2.length : Int) != 512) = true := by simp; omega
            go_wp2
            go_ret
            refine ⟨ret_bool ?_, (balloc Hb.out _)⟩
            rw [Hz.out, hd.out, rowFrom, show decide (x.2.length = 512) = false by simpa using h3, Bool.false_and, Bool.and_false, Bool.and_false]
    · obtain rfl : k = n := by omega
      go_wp2
      go_ret
      refine ⟨ret_bool ?_, Hb.out⟩
      rw [Hz.out, List.drop_of_length_le (by omega)]
      rfl
end Go.Proofs.YtgncmgchoogmpaaDoor
