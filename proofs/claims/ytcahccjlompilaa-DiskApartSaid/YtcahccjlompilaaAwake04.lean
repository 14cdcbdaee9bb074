/- The chapter's examples. -/
import Derived.Test.YtcahccjlompilaaDiskI
import Derived.Test.YtcahccjlompilaaRef04a
namespace Go.Proofs.Ytcahccjlompilaa
open Go.RowKit

def aw2 : DS := regS (regS (DS.new (sectorsN 4)) 1) 2
def aw5 : DS := aw2.cacheTo 1 (aw2.caches 1 ++ [(0, sec 120)])
def aw7 : DS := aw5.settle 1 (fun _ => true)
def aw8 : DS := aw7.fence 1
def aw9 : DS := aw8.cacheTo 1 (aw8.caches 1 ++ [(0, sec 121)])
def aw10 : DS := aw9.taken 1 [] []
theorem aw5_lie : lieI aw5 0 = zero512 := rfl
theorem aw7_lie : lieI aw7 0 = sec 120 := rfl
theorem aw8_pend : aw9.pend = 1 :: [] := rfl
theorem aw10_lie : lieI aw10 0 = sec 120 := rfl
theorem aw10_key : aw10.keys 1 ≠ 1 := by decide
theorem aw10_there : thereB aw10 0 = true := rfl
set_option maxRecDepth 100000 in
set_option maxHeartbeats 400000 in
theorem awake_any (w : World) : Calls Try.prog 10 #[] w fun e w' => e = .returned (.bool true) ∧ Below w.heap.size w w' := by
  have hmk := fun w => mkn w 512 (by omega) (by omega)
  have hcv : ∀ w : World, _ := fun w => cvn w 512
  rw [show List.replicate 512 (0 : UInt8) = zero512 from rfl] at hcv
  go_enter Try.func10, Try.ntmps10
  go_wp2_with fail
  refine (New_own w 4 (by decide) (Below.refl _ _)).mono ?_
  rintro e w1 ⟨b, rfl, h1, _⟩
  have H1 := Lib.hid h1
  clear h1
  go_wp2_with fail
  refine (Register_own H1.out (by decide) (by omega)).mono ?_
  rintro e w2 ⟨rfl, h2, _⟩
  have H2 := Lib.hid h2
  clear h2 H1
  go_wp2_with fail
  refine (Register_own H2.out (by decide) (by omega)).mono ?_
  rintro e w3 ⟨rfl, h3, _⟩
  have H3 : Hid (Own w w3 b 2 aw2 (fun _ => False)) := Lib.hid h3
  clear h3 H2
  go_wp2_with fail
  refine (sector_any 120 _).mono ?_
  rintro e w4 ⟨rfl, hb4⟩
  have H4 := Lib.hid (H3.out.later hb4)
  clear hb4 H3
  go_wp2_with fail
  refine (Write_own (i := 0) H4.out (by decide) (by decide) (sec_length _) rfl (by omega)).mono ?_
  rintro e w5 ⟨rfl, h5, _⟩
  have H5 : Hid (Own w w5 b 3 aw5 (fun _ => False)) := Lib.hid h5
  clear h5 H4
  go_wp2_with fail
  refine (Peek_own H5.out 0).mono ?_
  rw [aw5_lie]
  rintro e w6 ⟨rfl, rfl⟩
  go_wp2_with fail
  refine (Flush_own H5.out (by decide) rfl).mono ?_
  rintro e w7 ⟨rfl, h7, _⟩
  have H7 : Hid (Own w w7 b 3 aw7 (fun _ => False)) := Lib.hid h7
  clear h7 H5
  go_wp2_with fail
  refine (Peek_own H7.out 0).mono ?_
  rw [aw7_lie]
  rintro e w8 ⟨rfl, rfl⟩
  go_wp2_with fail
  refine (Fence_own (k := 2) (t := 1) H7.out (by decide) (by decide) (by decide) rfl (by omega)).mono ?_
  rintro e w9 ⟨rfl, h9, _⟩
  have H9 : Hid (Own w w9 b 4 aw8 (fun _ => False)) := Lib.hid h9
  clear h9 H7
  go_wp2_with fail
  refine (sector_any 121 _).mono ?_
  rintro e w10 ⟨rfl, hb10⟩
  have H10 := Lib.hid (H9.out.later hb10)
  clear hb10 H9
  go_wp2_with fail
  refine (Write_own (i := 0) H10.out (by decide) (by decide) (sec_length _) rfl (by omega)).mono ?_
  rintro e w11 ⟨rfl, h11, _⟩
  have H11 : Hid (Own w w11 b 5 aw9 (fun _ => False)) := Lib.hid h11
  clear h11 H10
  go_wp2_with fail
  refine (Takes_own (g := 0) H11.out aw8_pend (by omega) (PickArg.none _ 0) (fun h => absurd h (by decide))).mono ?_
  rintro e w12 ⟨rfl, h12, _⟩
  have H12 : Hid (Own w w12 b 7 aw10 (fun _ => False)) := Lib.hid h12
  clear h12 H11
  go_wp2_with fail
  refine (sector_any 122 _).mono ?_
  rintro e w13 ⟨rfl, hb13⟩
  have H13 := Lib.hid (H12.out.later hb13)
  clear hb13 H12
  go_wp2_with fail
  refine (Write_fenced H13.out (by decide) aw10_there (sec_length _) aw10_key).mono ?_
  rintro e w14 ⟨rfl, rfl⟩
  go_wp2_with fail
  have H14 := Lib.hid (H13.out.later ((Below.refl _ _).alloc (Nat.le_refl _) (zeroObj 512)))
  refine (Peek_own H14.out 0).mono ?_
  rw [aw10_lie]
  rintro e w15 ⟨rfl, rfl⟩
  go_wp2
  go_ret
  exact ⟨rfl, H14.out.below⟩
end Go.Proofs.Ytcahccjlompilaa
