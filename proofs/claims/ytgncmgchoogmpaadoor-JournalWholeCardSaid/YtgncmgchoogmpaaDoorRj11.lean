/- What the document's answers for layer 11 give, at this translation. -/
import Derived.Test.YtgncmgchoogmpaaDoorJu11
import Derived.Test.YtgncmgchoogmpaaDoorRefRd01
namespace Go.Proofs.YtgncmgchoogmpaaDoor
open Go.RowKit

theorem xHead_any (d : Int) (w : World) :
    Calls Tryd.prog 12 #[.int .i64 d] w fun e w' => e = .returned (.string (str (headS (clampD d)))) ∧ Below w.heap.size w w' := by
  obtain ⟨x, hx⟩ : ∃ x, Hid (clampD d = x) := ⟨_, Lib.hid rfl⟩
  have hle := clampD_le d
  rw [hx.out] at hle ⊢
  have hbe := be_length 8 x
  by_cases h0 : d < 0
  · have hx0 : x = 0 := by have := hx.out; unfold clampD at this; omega
    subst hx0
    go_enter Tryd.func12, Tryd.ntmps12
    go_wp2_with fail
    refine (Num8_any _ (by omega) (by omega) _).mono ?_
    rintro e w1 ⟨rfl, hb⟩
    rw [show (0 : Int).toNat = 0 from rfl]
    go_wp2_with fail
    rw [show (⟨#[76, 71, 72, 49]⟩ : ByteArray) ++ str (be 8 0) = str (lineH 0) from str_append signH (be 8 0)]
    refine (XFill_any _ (by rw [lineH_length]; unfold maxLen; omega) _).mono ?_
    rintro e w2 ⟨rfl, hb2⟩
    go_wp2
    go_ret
    exact ⟨rfl, bnext hb hb2⟩
  · by_cases h1 : 1099511627776 < d
    · have hx0 : x = 1099511627776 := by have := hx.out; unfold clampD at this; omega
      subst hx0
      go_enter Tryd.func12, Tryd.ntmps12
      go_wp2_with fail
      refine (Num8_any _ (by omega) (by omega) _).mono ?_
      rintro e w1 ⟨rfl, hb⟩
      rw [show (1099511627776 : Int).toNat = 1099511627776 from rfl]
      go_wp2_with fail
      rw [show (⟨#[76, 71, 72, 49]⟩ : ByteArray) ++ str (be 8 1099511627776) = str (lineH 1099511627776) from str_append signH (be 8 1099511627776)]
      refine (XFill_any _ (by rw [lineH_length]; unfold maxLen; omega) _).mono ?_
      rintro e w2 ⟨rfl, hb2⟩
      go_wp2
      go_ret
      exact ⟨rfl, bnext hb hb2⟩
    · have hx0 : d = (x : Int) := by have := hx.out; unfold clampD at this; omega
      subst hx0
      have hc : IntKind.u64.wrap (x : Int) = (x : Int) := IntWalk.u64_in _ (by omega)
      clear hx
      go_enter Tryd.func12, Tryd.ntmps12
      go_wp2_with fail
      refine (Num8_any _ (by omega) (by omega) _).mono ?_
      rintro e w1 ⟨rfl, hb⟩
      rw [Int.toNat_natCast]
      go_wp2_with fail
      rw [show (⟨#[76, 71, 72, 49]⟩ : ByteArray) ++ str (be 8 x) = str (lineH x) from str_append signH (be 8 x)]
      refine (XFill_any _ (by rw [lineH_length]; unfold maxLen; omega) _).mono ?_
      rintro e w2 ⟨rfl, hb2⟩
      go_wp2
      go_ret
      exact ⟨rfl, bnext hb hb2⟩
theorem xRoom_any (n : Int) (w : World) :
    Calls Tryd.prog 32 #[.int .i64 n] w fun e w' => e = .returned (.int .i64 (roomI n)) ∧ w = w' := by
  by_cases h0 : n < 3
  · have e : roomI n = 0 := by unfold roomI; omega
    rw [e]
    go_enter Tryd.func32, Tryd.ntmps32
    go_wp2
    go_ret
    exact ⟨rfl, rfl⟩
  · by_cases h1 : 63 < n
    · have e : roomI n = 60 := by unfold roomI; omega
      rw [e]
      go_enter Tryd.func32, Tryd.ntmps32
      go_wp2
      go_ret
      exact ⟨rfl, rfl⟩
    · have e : roomI n = n - 3 := by unfold roomI; omega
      have hw : IntKind.i64.wrap (n - 3) = n - 3 := IntWalk.i64_in _ (by omega)
      rw [e]
      go_enter Tryd.func32, Tryd.ntmps32
      go_wp2
      go_ret
      exact ⟨rfl, rfl⟩
theorem AR.made (w : World) (S : List UInt8) (hs : S.length ≤ 100000) : AR (w.alloc (.cells #[.string (str S), .int .i64 0, .bool false] 60)) w.heap.size S false :=
  ⟨S, 0, ⟨by simp [go_sem], by simp [go_sem], by simp [go_sem], by simp [go_sem], by simp [go_sem]⟩, Nat.zero_le _, by omega, by simp⟩
set_option maxRecDepth 100000 in
theorem xDone_any (l : List UInt8) (w : World) :
    Calls Tryd.prog 11 #[.string (str l)] w fun e w' => e = .returned (.tuple #[.int .i64 (xdoneV l : Int), .bool (xdoneOk l)]) ∧ Below w.heap.size w w' := by
  by_cases ho : xopenOk l = true
  · obtain ⟨_, hS, _⟩ := xopen_is ho
    obtain ⟨S, HS⟩ : ∃ x, Hid (xopenS l = x) := ⟨_, Lib.hid rfl⟩
    rw [HS.out] at hS
    by_cases h12 : S.length = 12
    · obtain ⟨x, Hx⟩ : ∃ x, Hid (eightV (S.drop 4) 1099511627776 = x) := ⟨_, Lib.hid rfl⟩
      obtain ⟨en, Hen⟩ : ∃ x, Hid (endE (eightL (S.drop 4) 1099511627776) (eightB (S.drop 4) false 1099511627776) = x) := ⟨_, Lib.hid rfl⟩
      have hle : x ≤ 1099511627776 := by rw [← Hx.out]; exact eightV_le _
      have hcl : Hid (clampD (x : Int) = x) := Lib.hid (clampD_of x hle)
      obtain ⟨q, Hq⟩ : ∃ q, Hid ((headS x == l) = q) := ⟨_, Lib.hid rfl⟩
      have hok : Hid (xdoneOk l = (decide (en = 0) && q)) := Lib.hid (by
        rw [xdoneOk, ho, HS.out, h12, Hx.out, Hen.out, Hq.out]
        simp)
      have hv : Hid (xdoneV l = if (decide (en = 0) && q) = true then x else 0) := Lib.hid (by rw [xdoneV, hok.out, HS.out, Hx.out])
      obtain ⟨bb, Hbb⟩ : ∃ z, Hid ((decide (en = 0) && q) = z) := ⟨_, Lib.hid rfl⟩
      obtain ⟨vv, Hvv⟩ : ∃ z, Hid ((if bb = true then x else 0) = z) := ⟨_, Lib.hid rfl⟩
      rw [hok.out, hv.out, Hbb.out, Hvv.out]
      have h12b : ((S.length : Int) != 12) = false := by simp [h12]
      have hsl : ¬ (S.length : Int) < 4 := by omega
      have hq := Hq.out
      have H12 := Lib.hid h12
      clear hok hv h12
      go_enter Tryd.func11, Tryd.ntmps11
      go_wp2_with fail
      refine (XOpen_any _ _).mono ?_
      rw [ho, HS.out]
      rintro e w1 ⟨rfl, hb⟩
      have B1 := Lib.hid hb
      clear hb
      obtain ⟨w2, HW2⟩ : ∃ x, Hid (w1.alloc (.cells #[.string (str (S.drop 4)), .int .i64 0, .bool false] 60) = x) := ⟨_, Lib.hid rfl⟩
      have A2 : Hid (AR w2 w1.heap.size (S.drop 4) false) := Lib.hid (by rw [← HW2.out]; exact AR.made w1 _ (by simp; have := H12.out; omega))
      have B2 : Hid (Below w.heap.size w w2) := Lib.hid (by rw [← HW2.out]; exact balloc B1.out _)
      obtain ⟨b, Hb⟩ : ∃ x, Hid (w1.heap.size = x) := ⟨_, Lib.hid rfl⟩
      rw [Hb.out] at A2
      have hwb : Hid (w.heap.size ≤ b) := Lib.hid (by have := B1.out.size; have := Hb.out; omega)
      go_wp2_with fail
      rw [HW2.out, Hb.out]
      refine (AEight_any b (S.drop 4) false 1099511627776 (by omega) (by omega) w2 A2.out).mono ?_
      rw [Hx.out]
      rintro e w3 ⟨rfl, hm, ha⟩
      have A3 := Lib.hid ha
      have B3 := Lib.hid (bmod B2.out hm hwb.out)
      clear hm ha
      go_wp2_with fail
      refine (AEnd_any b _ _ w3 A3.out).mono ?_
      rw [Hen.out]
      rintro e w4 ⟨rfl, hb4⟩
      have B4 := Lib.hid (bnext B3.out hb4)
      clear hb4 A3 A2 Hx Hen Hq
      by_cases he : en = 0
      · subst he
        go_wp2_with fail
        refine (xHead_any _ _).mono ?_
        rw [hcl.out]
        rintro e w5 ⟨rfl, hb5⟩
        have B5 := Lib.hid (bnext B4.out hb5)
        clear hb5 hcl
        cases q
        · obtain rfl : false = bb := Hbb.out
          obtain rfl : 0 = vv := Hvv.out
          clear Hbb Hvv
          go_wp2
          go_ret2
          exact ⟨rfl, B5.out⟩
        · obtain rfl : true = bb := Hbb.out
          obtain rfl : x = vv := Hvv.out
          clear Hbb Hvv
          go_wp2
          go_ret2
          exact ⟨rfl, B5.out⟩
      · have heb : (en != 0) = true := by simpa using he
        have hed : decide (en = 0) = false := by simpa using he
        have hb0 := Hbb.out
        rw [hed, Bool.false_and] at hb0
        obtain rfl : false = bb := hb0
        obtain rfl : 0 = vv := Hvv.out
        clear hed Hbb Hvv
        go_wp2
        go_ret2
        exact ⟨rfl, B4.out⟩
    · have hok : Hid (xdoneOk l = false) := Lib.hid (by rw [xdoneOk, ho, HS.out, show decide (S.length = 12) = false by simpa using h12]; rfl)
      have h12b : ((S.length : Int) != 12) = true := by simp; omega
      rw [xdoneV, hok.out]
      go_enter Tryd.func11, Tryd.ntmps11
      go_wp2_with fail
      refine (XOpen_any _ _).mono ?_
      rw [ho, HS.out]
      rintro e w1 ⟨rfl, hb⟩
      go_wp2
      go_ret2
      exact ⟨rfl, hb⟩
  · have ho' : xopenOk l = false := by simpa using ho
    have hok : Hid (xdoneOk l = false) := Lib.hid (by rw [xdoneOk, ho']; rfl)
    rw [xdoneV, hok.out]
    go_enter Tryd.func11, Tryd.ntmps11
    go_wp2_with fail
    refine (XOpen_any _ _).mono ?_
    rw [ho']
    rintro e w1 ⟨rfl, hb⟩
    go_wp2
    go_ret2
    exact ⟨rfl, hb⟩
end Go.Proofs.YtgncmgchoogmpaaDoor
