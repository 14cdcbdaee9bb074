/- The chapter's examples of names, at this translation. -/
import Derived.Test.YtnoidhfhnaemgaaDoorBc15
import Derived.Test.YtnoidhfhnaemgaaDoorSx15
import Derived.Test.YtnoidhfhnaemgaaDoorSn15
import Derived.Test.YtnoidhfhnaemgaaDoorZn15
namespace Go.Proofs.YtnoidhfhnaemgaaDoor
open Go.RowKit

theorem Splits.len {l : List UInt8} {X : List (List UInt8)} {b : Bool} (h : Splits l X b) : X.length ≤ 8 := by
  rcases h.is with ⟨_, h, _⟩ | ⟨_, h, _⟩
  · exact h.n
  · rw [h]; decide
set_option maxRecDepth 100000 in
set_option maxHeartbeats 4000000 in
theorem awk15_any (w : World) (hm : Mx w) :
    Calls Tryd.prog 10 #[] w fun e w' => e = .returned (.bool true) ∧ Below w.heap.size w w' := by
  have HM := Lib.hid hm
  have E : Hid (bytesV [([97], 7)] = [0, 1, 97, 0, 0, 0, 7] ∧ bytesW [([97], 7)] = 0 ∧ zoneU [97] = 1) := Lib.hid ⟨by decide +kernel, by decide +kernel, by decide +kernel⟩
  clear hm
  go_enter Tryd.func10, Tryd.ntmps10
  go_wp2_with fail
  rw [show (⟨#[47, 97, 47, 98, 46, 99]⟩ : ByteArray) = str [47, 97, 47, 98, 46, 99] from rfl]
  refine (Split_any [47, 97, 47, 98, 46, 99] (by decide) w HM.out).mono ?_
  rintro e w1 ⟨A1, n1, c1, X1, t1, rfl, h1, s1, b1⟩
  obtain ⟨rfl, rfl⟩ := Splits.of (X := [[97], [98, 46, 99]]) ⟨by decide, by decide⟩ s1
  obtain rfl : n1 = 2 := h1.length.symm
  obtain ⟨g1, o1, rfl, hg1, hc1⟩ := h1.cells (by omega)
  have k1 := hc1 1 [98, 46, 99] 0 _ rfl rfl
  have T1 : Hid (w1.cell? ⟨g1, o1 + 1, none⟩ = some (.string (str [98, 46, 99])) ∧ Below w.heap.size w w1) := Lib.hid ⟨k1, b1⟩
  clear h1 s1 b1 hc1 k1 hg1
  go_wp2_with fail
  rw [show (⟨#[47]⟩ : ByteArray) = str [47] from rfl]
  refine (Split_any [47] (by decide) w1 (HM.out.below T1.out.2)).mono ?_
  rintro e w2 ⟨A2, n2, c2, X2, t2, rfl, h2, s2, b2⟩
  obtain ⟨rfl, rfl⟩ := s2.same splits_root
  obtain rfl : n2 = 0 := h2.length.symm
  have B2 := Lib.hid (bnext T1.out.2 b2)
  have K2 := Lib.hid ((b2.cell (p := ⟨g1, o1 + 1, none⟩) (lt_of_cell T1.out.1)).trans T1.out.1)
  clear h2 s2 b2
  go_wp2_with fail
  rw [show (⟨#[97]⟩ : ByteArray) = str [97] from rfl]
  refine (Split_any [97] (by decide) w2 (HM.out.below B2.out)).mono ?_
  rintro e w3 ⟨A3, n3, c3, X3, t3, rfl, h3, s3, b3⟩
  obtain ⟨rfl, rfl⟩ := s3.same (splits_other (l := [97]) (fun r e => by cases e))
  have B3 := Lib.hid (bnext B2.out b3)
  have K3 := Lib.hid ((b3.cell (p := ⟨g1, o1 + 1, none⟩) (lt_of_cell K2.out)).trans K2.out)
  clear h3 s3 b3
  obtain ⟨U, HU⟩ : ∃ u, Hid (w3.alloc (.cells #[.string (str [97]), .int .i64 7] 44) = u) := ⟨_, Lib.hid rfl⟩
  obtain ⟨sz, Hsz⟩ : ∃ s, Hid (w3.heap.size = s) := ⟨_, Lib.hid rfl⟩
  have T4 : Hid (Below w3.heap.size w3 U ∧ IsG U 2 encN (some ⟨sz, 0, none⟩) 1 [([97], 7)]) := Lib.hid (by rw [← HU.out, ← Hsz.out]; exact ⟨balloc (Below.refl _ _) _, n_one w3 ([97], 7) _⟩)
  go_wp2_with fail
  rw [show (⟨#[97]⟩ : ByteArray) = str [97] from rfl]
  rw [HU.out, Hsz.out]
  refine (Bytes_any (some ⟨sz, 0, none⟩) 1 1 [([97], 7)] U T4.out.2 (by decide)).mono ?_
  rw [E.out.1, E.out.2.1]
  rintro e w5 ⟨rfl, b5⟩
  have B5 : Hid (Below w3.heap.size w3 w5) := Lib.hid (bnext T4.out.1 b5)
  have B6 := Lib.hid (bnext B3.out B5.out)
  have K5 := (B5.out.cell (p := ⟨g1, o1 + 1, none⟩) (lt_of_cell K3.out)).trans K3.out
  clear b5
  go_wp2_with fail
  rw [show (⟨#[97]⟩ : ByteArray) = str [97] from rfl]
  refine (Zone_any [97] (by decide) w5).mono ?_
  rw [E.out.2.2]
  rintro e w6 ⟨rfl, b6⟩
  have B7 := Lib.hid (bnext B6.out b6)
  clear b6 K5
  go_wp2
  go_ret
  exact ⟨ret_bool (by first | rfl | simp), B7.out⟩
theorem short15_any (l : List UInt8) (m : Nat) (_hm : m ≤ 1000) (_hl : l.length ≤ 9223372036854775807) (w : World) :
    Calls Tryd.prog 11 #[.string (str l), .int .i64 (m : Int)] w fun e w' => e = .returned (.string (str (l.take m))) ∧ w = w' := by
  by_cases h : m < l.length
  · go_enter Tryd.func11, Tryd.ntmps11
    go_wp2
    go_ret
    exact ⟨rfl, rfl⟩
  · rw [List.take_of_length_le (by omega)]
    go_enter Tryd.func11, Tryd.ntmps11
    go_wp2
    go_ret
    exact ⟨rfl, rfl⟩
theorem isG15_of {w : World} {A : Option Addr} {n : Nat} {ss : List (List UInt8)} (h : IsStrs w A n ss) : IsG w 1 encT A n ss ∧ ∀ s ∈ ss, s.length ≤ 9223372036854775807 := by
  refine ⟨⟨h.length, h.max, fun h0 => ?_⟩, fun s hs => by have := h.wf s hs; unfold maxLen at this; omega⟩
  obtain ⟨b, off, e, hc⟩ := h.cells h0
  refine ⟨b, off, e, lt_of_cell (hc 0 h0), fun i a j u hi hj => ?_⟩
  match j, hj with
  | 0, hj =>
    simp only [encT, List.getElem?_cons_zero, Option.some.injEq] at hj
    subst hj
    have hlt : i < n := by
      obtain ⟨h1, _⟩ := List.getElem?_eq_some_iff.1 hi
      rw [← h.length]; exact h1
    have h2 := hc i hlt
    rw [List.getD_eq_getElem?_getD, hi] at h2
    rw [Nat.mul_one, Nat.add_zero]
    exact h2
  | j + 1, hj => simp [encT] at hj
end Go.Proofs.YtnoidhfhnaemgaaDoor
