/- What a law hands on: at most six maps of forty bytes, at this translation. -/
import Derived.Test.YtidclmhlmnhbkaaLb17
namespace Go.Proofs.Ytidclmhlmnhbkaa
open Go.RowKit

/-- At most 6 maps, of 40 bytes at most. -/
def cutT (s : List UInt8) : List UInt8 := s.take 40
def cutM (l : List (List UInt8)) : List (List UInt8) := (l.take 6).map cutT
theorem cutM_length (l : List (List UInt8)) : (cutM l).length ≤ 6 := by simp [cutM]; omega
theorem cutM_len (l : List (List UInt8)) : ∀ s ∈ cutM l, s.length ≤ 100000 := by
  intro s hs
  obtain ⟨x, hx, rfl⟩ := List.mem_map.1 hs
  simp [cutT]
  omega
set_option maxRecDepth 100000 in
set_option maxHeartbeats 2000000 in
theorem small17_any (A : Option Addr) (n c : Nat) (l : List (List UInt8)) (w : World) (h : IsG w 1 encT A n l) (hwf : ∀ s ∈ l, s.length ≤ 9223372036854775807) :
    Calls Try.prog 9 #[.slice A n c] w fun e w' => ∃ A' n' c', e = .returned (.slice A' n' c') ∧ RG w' 1 encT (.slice A' n' c') (cutM l) ∧ (∀ g, blk (.slice A' n' c') = some g → w.heap.size ≤ g) ∧ Below w.heap.size w w' := by
  have HG := Lib.hid h
  have Hl := Lib.hid h.length
  have hsm := h.small
  clear h
  go_enter Try.func9, Try.ntmps9
  go_wp2_with fail
  go_loopw [3, 4] (fun v i wr => ∃ j : Nat, j ≤ n ∧ j ≤ 6 ∧ i = .int .i64 j ∧ Hid (RG wr 1 encT v ((l.take j).map cutT) ∧ (∀ g, blk v = some g → w.heap.size ≤ g) ∧ Below w.heap.size w wr)) (fun _ i _ => 6 - (intOf i).toNat)
  case atStart => exact ⟨0, Nat.zero_le _, Nat.zero_le _, rfl, Lib.hid ⟨RG.nil _ _ _, (fun g e => by cases e), Below.refl _ _⟩⟩
  case round =>
    obtain ⟨j, hj, hj12, rfl, HC⟩ := hrel
    obtain ⟨A2, c2, rfl⟩ := HC.out.1.shape
    obtain ⟨dn, Hdn⟩ : ∃ dn, Hid (((l.take j).map cutT).length = dn) := ⟨_, Lib.hid rfl⟩
    have hdl : dn ≤ 6 := by rw [← Hdn.out]; simp; omega
    rw [Hdn.out] at HC ⊢
    have fin : (j = n ∨ j = 6) → Hid (RG wr 1 encT (.slice A2 dn c2) (cutM l) ∧ (∀ g, blk (.slice A2 dn c2) = some g → w.heap.size ≤ g) ∧ Below w.heap.size w wr) := fun e => Lib.hid (by
      have e2 : (l.take j).map cutT = cutM l := by
        unfold cutM
        rcases e with rfl | rfl
        · rw [List.take_of_length_le (by have := Hl.out; omega), List.take_of_length_le (by have := Hl.out; omega)]
        · rfl
      rw [← e2]
      exact HC.out)
    by_cases hlt : j < n
    · by_cases h12 : j < 6
      · have h12' : (j : Int) < 6 := by omega
        obtain ⟨x, Hx⟩ : ∃ x, Hid (l[j]? = some x) := ⟨l[j]'(by have := Hl.out; omega), Lib.hid (List.getElem?_eq_getElem _)⟩
        obtain ⟨g, off, rfl, hgl, hc⟩ := (HG.out.below HC.out.2.2).cells (by omega)
        have c1 := hc j x 0 _ Hx.out rfl
        rw [Nat.mul_one, Nat.add_zero] at c1
        have hxl := hwf x (List.mem_of_getElem? Hx.out)
        have Hsn : Hid ((l.take (j + 1)).map cutT = (l.take j).map cutT ++ [x.take 40]) := Lib.hid (by
          obtain ⟨hjl, ej⟩ := List.getElem?_eq_some_iff.1 Hx.out
          rw [List.take_succ_eq_append_getElem hjl, ej, List.map_append]
          rfl)
        clear hc fin
        obtain ⟨t, Ht⟩ : ∃ t, Hid (x.take 40 = t) := ⟨_, Lib.hid rfl⟩
        rw [Ht.out] at Hsn
        obtain ⟨W, HW⟩ : ∃ W, Hid (wr.alloc (.cells #[.string (str t)] 9) = W) := ⟨_, Lib.hid rfl⟩
        obtain ⟨p, Hp⟩ : ∃ p, Hid (wr.heap.size = p) := ⟨_, Lib.hid rfl⟩
        have hbW : Below wr.heap.size wr W := by rw [← HW.out]; exact balloc (Below.refl _ _) _
        have hI : IsG W 1 encT (some ⟨p, 0, none⟩) 1 [t] := by
          rw [← HW.out, ← Hp.out]
          exact t_one wr t
        obtain ⟨v2, w2, hr2, r2, a2⟩ := appG tInf encT_ok (HC.out.1.below hbW) (c := 1) hI (by rw [Hdn.out]; omega) (by decide) 24
        have HR2 := Lib.hid hr2
        have N2 : Hid (RG w2 1 encT v2 ((l.take (j + 1)).map cutT) ∧ (∀ g, blk v2 = some g → w.heap.size ≤ g) ∧ Below w.heap.size w w2) := Lib.hid (by
          rw [Hsn.out]
          have hB := HC.out.2.2.size
          refine ⟨r2, fun q e => ?_, ?_⟩
          · rcases a2.blk with e2 | ⟨q2, e2, hq2⟩
            · exact HC.out.2.1 q (e2 ▸ e)
            · rw [e2] at e
              obtain rfl := Option.some.inj e
              have := hbW.size
              omega
          · exact a2.mod.below (HC.out.2.2.trans (hbW.mono hB)) (Nat.le_trans hB hbW.size) HC.out.2.1)
        have hdn' : Hid (((l.take (j + 1)).map cutT).length = dn + 1) := Lib.hid (by rw [Hsn.out, List.length_append, Hdn.out]; rfl)
        clear hbW hI hr2 r2 a2
        obtain ⟨A3, c3, rfl⟩ : ∃ A3 c3, v2 = .slice A3 (dn + 1) c3 := by
          obtain ⟨A3, c3, e⟩ := N2.out.1.shape
          exact ⟨A3, c3, by rw [e, hdn'.out]⟩
        by_cases h20 : 40 < x.length
        · go_wp2_with (first | (at_builtin; rw [Ht.out, HW.out, Hp.out]; refine wpList_append_run rfl (.tmp 25) (.tmp 27) 24 rfl (by exact HR2.out) ?_) | fail)
          go_roundw
          case rel => exact ⟨j + 1, by omega, by omega, by go_num, N2⟩
          case measure => simp [intOf]; omega
        · have Hte : Hid (x = t) := Lib.hid (by rw [← Ht.out, List.take_of_length_le (by omega)])
          rw [Hte.out] at c1 h20
          go_wp2_with (first | (at_builtin; rw [HW.out, Hp.out]; refine wpList_append_run rfl (.tmp 25) (.tmp 27) 24 rfl (by exact HR2.out) ?_) | fail)
          go_roundw
          case rel => exact ⟨j + 1, by omega, by omega, by go_num, N2⟩
          case measure => simp [intOf]; omega
      · have h12' : ¬ (j : Int) < 6 := by omega
        have F := fin (.inr (by omega))
        clear fin
        go_wp2
        go_ret
        exact ⟨A2, dn, c2, rfl, F.out⟩
    · have F := fin (.inl (by omega))
      clear fin
      go_wp2
      go_ret
      exact ⟨A2, dn, c2, rfl, F.out⟩
end Go.Proofs.Ytidclmhlmnhbkaa
