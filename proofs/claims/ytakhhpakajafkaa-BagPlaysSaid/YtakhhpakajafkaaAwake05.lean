/- The chapter's examples. -/
import Derived.Test.YtakhhpakajafkaaOwn05
namespace Go.Proofs.Ytakhhpakajafkaa
open Go.RowKit

def aw1 : NS := sendS NS.none 1 2 [97]
def aw2 : NS := sendS aw1 1 2 [98]
def aw3 : NS := tkS aw2 1 2 1
def aw4 : NS := dbS aw3 1 2 0
theorem aw1_eq : aw1 = NS.none.put 10 [[97]] := rfl
theorem aw2_eq : aw2 = (NS.none.put 10 [[97]]).put 10 [[97], [98]] := rfl
theorem aw3_eq : aw3 = ((NS.none.put 10 [[97]]).put 10 [[97], [98]]).put 10 [[97]] := rfl
theorem aw4_eq : aw4 = (((NS.none.put 10 [[97]]).put 10 [[97], [98]]).put 10 [[97]]).put 10 [[97], [97]] := rfl
theorem aw4_at (k : Nat) : aw4 k = if k = 10 then [[97], [97]] else [] := by
  rw [aw4_eq]
  by_cases h : k = 10
  · subst h; rfl
  · rw [if_neg h, NS.put_other _ _ h, NS.put_other _ _ h, NS.put_other _ _ h, NS.put_other _ _ h]; rfl
theorem aw4_sum : sum aw4 64 = 2 := by rfl
theorem aw4_sum10 : sum aw4 10 = 0 := by rfl
set_option maxRecDepth 100000 in
set_option maxHeartbeats 1000000 in
theorem awake_any (w : World) : Calls Try.prog 10 #[] w fun e w' => e = .returned (.bool true) ∧ Below w.heap.size w w' := by
  have Hw1 : Hid ((Lit.int .i64 1).wf = true) := Lib.hid (by decide)
  have Hw0 : Hid ((Lit.int .i64 0).wf = true) := Lib.hid (by decide)
  have Hs1 : Hid (sendB NS.none 1 2 [97] = true) := Lib.hid rfl
  have Hs2 : Hid (sendB aw1 1 2 [98] = true) := Lib.hid rfl
  have Ht : Hid (tkT aw2 1 2 1 = [98] ∧ tkB aw2 1 2 = true) := Lib.hid ⟨rfl, rfl⟩
  have Hd : Hid (dbB aw3 1 2 = true) := Lib.hid rfl
  have Hl : Hid ((onL aw4 1 2).length = 2) := Lib.hid rfl
  go_enter Try.func10, Try.ntmps10
  go_wp2_with fail
  refine (New_own w (Below.refl _ _)).mono ?_
  rintro e w1 ⟨b, rfl, h1, hb1⟩
  have H1 := Lib.hid h1
  clear h1
  go_wp2_with fail
  rw [show (⟨#[97]⟩ : ByteArray) = str [97] from rfl]
  refine (Send_own H1.out 1 2 [97] (by decide)).mono ?_
  rw [Hs1.out]
  rintro e w2 ⟨rfl, h2, _⟩
  have H2 := Lib.hid h2
  clear h2
  go_wp2_with fail
  rw [show (⟨#[98]⟩ : ByteArray) = str [98] from rfl]
  refine (Send_own H2.out 1 2 [98] (by decide)).mono ?_
  rw [show sendS NS.none 1 2 [97] = aw1 from rfl, Hs2.out]
  rintro e w3 ⟨rfl, h3, _⟩
  have H3 := Lib.hid h3
  clear h3
  go_wp2_with fail
  refine (Take_own (s := aw2) H3.out 1 2 Hw1.out).mono ?_
  rw [Ht.out.1, Ht.out.2]
  rintro e w4 ⟨rfl, h4, _⟩
  have H4 := Lib.hid h4
  clear h4
  go_wp2_with fail
  refine (Double_own (s := aw3) H4.out 1 2 Hw0.out).mono ?_
  rw [Hd.out]
  rintro e w5 ⟨rfl, h5, _⟩
  have H5 := Lib.hid h5
  clear h5
  go_wp2_with fail
  refine (Waits_own (s := aw4) H5.out 1 2).mono ?_
  rw [Hl.out]
  rintro e w6 ⟨rfl, rfl⟩
  go_wp2_with fail
  refine (Any_own (s := aw4) H5.out Hw1.out (by rw [aw4_sum]; decide)).mono ?_
  rintro e w7 ⟨k, j, hk, hj, hp, rfl, h7, _⟩
  have hk10 : k = 10 := by
    rw [aw4_at] at hj
    by_cases h : k = 10
    · exact h
    · rw [if_neg h] at hj; simp at hj
  subst hk10
  have hj1 : j = 1 := by
    rw [aw4_sum, aw4_sum10] at hp
    have : wh 1 2 = 1 := rfl
    omega
  subst hj1
  rw [show pV 10 (nth (aw4 10) 1) = .agg #[.int .i64 1, .int .i64 2, .string (str [97])] from rfl]
  have H7 := Lib.hid h7
  clear h7 hj hp hk
  go_wp2_with fail
  rw [show (⟨#[]⟩ : ByteArray) = str [] from rfl]
  obtain ⟨S8, HS8⟩ : ∃ S8, Hid ((aw4.put 10 ((aw4 10).eraseIdx 1)) = S8) := ⟨_, Lib.hid rfl⟩
  rw [HS8.out] at H7
  refine (Send_own (H7.out.later ((Below.refl _ _).alloc (Nat.le_refl _) _)) 1 1 [] (by decide)).mono ?_
  rw [show sendB S8 1 1 [] = false from rfl]
  rintro e w8 ⟨rfl, h8, _⟩
  have H8 := Lib.hid h8
  clear h8
  go_wp2
  go_ret
  exact ⟨rfl, H8.out.below⟩
end Go.Proofs.Ytakhhpakajafkaa
