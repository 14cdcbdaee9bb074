/- Bytes cut into sectors: what package inode's Cut gives, at this translation. -/
import Derived.Test.YtdlbibhekoobjaaIs14
import Derived.Test.YtdlbibhekoobjaaSs12
import Derived.Test.YtdlbibhekoobjaaRep0
namespace Go.Proofs.Ytdlbibhekoobjaa
open Go.RowKit

/-- How many sectors; bytes with bytes 0 behind them, till all sectors are full; one of them. -/
def cutN (n : Nat) : Nat := (n + 511) / 512
def padT (s : List UInt8) : List UInt8 := s ++ List.replicate (512 * cutN s.length - s.length) 0
def secK (T : List UInt8) (k : Nat) : List UInt8 := (T.drop (512 * k)).take 512
def cutL (s : List UInt8) : List (List UInt8) := (List.range (cutN s.length)).map (secK (padT s))
theorem cutN_le (n : Nat) : n ≤ 512 * cutN n ∧ 512 * cutN n < n + 512 := by unfold cutN; omega
theorem padT_length (s : List UInt8) : (padT s).length = 512 * cutN s.length := by
  have := cutN_le s.length
  simp [padT]; omega
theorem cutL_length (s : List UInt8) : (cutL s).length = cutN s.length := by simp [cutL]
theorem cutL_get (s : List UInt8) {k : Nat} (h : k < cutN s.length) : (cutL s)[k]? = some (secK (padT s) k) := by
  simp [cutL, h]
theorem secK_length {s : List UInt8} {k : Nat} (h : k < cutN s.length) : (secK (padT s) k).length = 512 := by
  have := padT_length s
  simp [secK]; omega
/-- A part of the bytes, with bytes 0 behind it. -/
theorem secK_part (s : List UInt8) {k : Nat} (h : k < cutN s.length) : secK (padT s) k = (s.drop (512 * k)).take 512 ++ List.replicate (512 - ((s.drop (512 * k)).take 512).length) 0 := by
  have hl := cutN_le s.length
  rw [secK, padT, List.drop_append, List.take_append]
  congr 1
  rw [List.drop_replicate, List.take_replicate]
  congr 1
  simp only [List.length_drop, List.length_take]
  omega
theorem cutL_take_succ (s : List UInt8) {k : Nat} (h : k < cutN s.length) : (cutL s).take (k + 1) = (cutL s).take k ++ [secK (padT s) k] := by
  rw [List.take_succ_eq_append_getElem (by rw [cutL_length]; exact h)]
  congr 2
  have := cutL_get s h
  exact (List.getElem?_eq_some_iff.1 this).2
/-- All of them put together. -/
theorem cutL_flat (s : List UInt8) : ∀ k, k ≤ cutN s.length → ((cutL s).take k).flatten = (padT s).take (512 * k)
  | 0, _ => by simp
  | k + 1, h => by
    rw [cutL_take_succ s h, List.flatten_append, cutL_flat s k (by omega), List.flatten_cons, List.flatten_nil, List.append_nil, secK, show 512 * (k + 1) = 512 * k + 512 by omega, List.take_add]
theorem needI_cut {n : Nat} (h : n ≤ 100000) : needI (n : Int) = (cutN n : Int) := by
  unfold cutN
  by_cases h1 : (n : Int) < 1
  · rw [needI_lo h1]; omega
  · rw [needI_hi h1]; omega
set_option maxRecDepth 100000 in
set_option maxHeartbeats 2000000 in
theorem Cut_any (s : List UInt8) (hs : s.length ≤ 10000) (w : World) :
    Calls Try.prog 24 #[.string (str s)] w fun e w' => ∃ v, e = .returned v ∧ RG w' 1 encT v (cutL s) ∧ (∀ g, blk v = some g → w.heap.size ≤ g) ∧ Below w.heap.size w w' := by
  obtain ⟨N, HN⟩ : ∃ N, Hid (cutN s.length = N) := ⟨_, Lib.hid rfl⟩
  have hN := cutN_le s.length
  rw [HN.out] at hN
  obtain ⟨hN0, hN1⟩ := hN
  go_enter Try.func24, Try.ntmps24
  go_wp2
  go_loopw [0, 3] (fun a o wr => ∃ k : Nat, k ≤ N ∧ a = .string (str (s.drop (512 * k))) ∧ Hid (RG wr 1 encT o ((cutL s).take k)) ∧ Hid (∀ g, blk o = some g → w.heap.size ≤ g) ∧ Hid (Below w.heap.size w wr)) (fun a _ _ => match a with | .string b => b.size | _ => 0)
  case atStart => exact ⟨0, by omega, rfl, Lib.hid (by rw [List.take_zero]; exact RG.nil _ _ _), Lib.hid (fun g hg => by cases hg), Lib.hid (Below.refl _ _)⟩
  case round =>
    obtain ⟨k, hk, rfl, HR, HB0, HB⟩ := hrel
    obtain ⟨r, Hr⟩ : ∃ r, Hid (s.drop (512 * k) = r) := ⟨_, Lib.hid rfl⟩
    have hrl : r.length = s.length - 512 * k := by rw [← Hr.out]; simp
    have Hrl := Lib.hid hrl
    rw [Hr.out]
    by_cases hlt : k < N
    · have hpos : 0 < r.length := by omega
      have hpt := secK_part s (by rw [HN.out]; exact hlt)
      rw [Hr.out] at hpt
      have Hpt := Lib.hid hpt
      obtain ⟨A3, c3, he3⟩ := HR.out.shape
      subst he3
      have hlk : ((cutL s).take k).length = k := by rw [List.length_take, cutL_length, HN.out]; omega
      have Hlk := Lib.hid hlk
      rw [hlk] at HR HB0 ⊢
      obtain ⟨m, Hm⟩ : ∃ m, Hid (min r.length 512 = m) := ⟨_, Lib.hid rfl⟩
      have hm : (min (r.length : Int) 512).toNat = m := by have := Hm.out; omega
      have hm2 : min m r.length = m := by have := Hm.out; omega
      have hm3 : m ≤ r.length := by have := Hm.out; omega
      have hm5 : m ≤ 512 := by have := Hm.out; omega
      have hm6 : 0 < m := by have := Hm.out; omega
      have hm7 : (min (r.length : Int) 512) = (m : Int) := by have := Hm.out; omega
      obtain ⟨p, Hp⟩ : ∃ p, Hid (r.take m = p) := ⟨_, Lib.hid rfl⟩
      have hpl : p.length = m := by rw [← Hp.out, List.length_take]; omega
      have Hp5 : Hid (r.take 512 = p) := Lib.hid (by
        rw [← Hp.out]
        by_cases h : r.length ≤ 512
        · rw [List.take_of_length_le h, List.take_of_length_le (by have := Hm.out; omega)]
        · rw [show m = 512 by have := Hm.out; omega])
      have Hdr : Hid (r.drop m = s.drop (512 * (k + 1))) := Lib.hid (by
        by_cases h : 512 ≤ r.length
        · rw [← Hr.out, List.drop_drop, show m = 512 by have := Hm.out; omega, show 512 * k + 512 = 512 * (k + 1) by omega]
        · rw [List.drop_eq_nil_of_le (by have := Hm.out; omega), List.drop_eq_nil_of_le (by omega)])
      obtain ⟨S, HS⟩ : ∃ S, Hid (secK (padT s) k = S) := ⟨_, Lib.hid rfl⟩
      have HSp : Hid (p ++ List.replicate (512 - m) 0 = S) := Lib.hid (by rw [← HS.out, hpt, Hp5.out, hpl])
      have Htk : Hid ((cutL s).take (k + 1) = (cutL s).take k ++ [S]) := Lib.hid (by rw [cutL_take_succ s (by rw [HN.out]; exact hlt), HS.out])
      have Hpl := Lib.hid hpl
      have hp := Hp.out
      clear hlk hpt hrl hm2
      go_wp2_with fail
      refine (Repeat0_any _ (by omega) (by omega) _).mono ?_
      rw [show (512 - (m : Int)).toNat = 512 - m by omega]
      rintro e w2 ⟨rfl, hb2⟩
      have B2 := Lib.hid hb2
      clear hb2
      have hsum : p.length + (512 - m) = 512 := by omega
      obtain ⟨W3, HW3⟩ : ∃ z, Hid (w2.alloc (.cells #[.string (str S)] 9) = z) := ⟨_, Lib.hid rfl⟩
      have B3 : Hid (Below wr.heap.size wr W3) := Lib.hid (by rw [← HW3.out]; exact balloc B2.out _)
      obtain ⟨q, Hq⟩ : ∃ z, Hid (w2.heap.size = z) := ⟨_, Lib.hid rfl⟩
      have G3 : Hid (IsG W3 1 encT (some ⟨q, 0, none⟩) 1 [S]) := Lib.hid (by rw [← HW3.out, ← Hq.out]; exact tx_one w2 S _)
      obtain ⟨T6, w6, hr6, r6, a6⟩ := appG txInf encT_ok (HR.out.below B3.out) (c := 1) G3.out (by rw [Hlk.out]; omega) (by decide) 43
      have Hr6 := Lib.hid hr6
      have HR6 : Hid (RG w6 1 encT T6 ((cutL s).take (k + 1))) := Lib.hid (by rw [Htk.out]; exact r6)
      have HN6 : Hid (∀ g, blk T6 = some g → w.heap.size ≤ g) := Lib.hid (fun g hg => by
        rcases a6.blk with e | ⟨g', e, h'⟩
        · exact HB0.out g (e ▸ hg)
        · rw [e] at hg; injection hg with hg; have := B3.out.size; have := HB.out.size; omega)
      have HB6 : Hid (Below w.heap.size w w6) := Lib.hid (Mod.below (bnext HB.out B3.out) a6.mod (bnext HB.out B3.out).size (fun g hg => HB0.out g hg))
      clear hr6 r6 a6
      go_wp2_with (at_builtin; rw [HSp.out, HW3.out, Hq.out]; refine wpList_append_run rfl (.tmp 13) (.tmp 20) 43 rfl (by exact Hr6.out) ?_)
      go_roundw
      case rel => exact ⟨k + 1, by omega, by rw [Hdr.out], HR6, HN6, HB6⟩
      case measure => show (str (r.drop m)).size < (str r).size; rw [str_size, str_size, List.length_drop]; omega
    · have hz : r.length = 0 := by omega
      have hkN : N ≤ k := by omega
      have Hall : Hid ((cutL s).take k = cutL s) := Lib.hid (List.take_of_length_le (by rw [cutL_length, HN.out]; exact hkN))
      rw [Hall.out] at HR
      have hz2 : ¬ (0 : Int) < (r.length : Int) := by omega
      clear hrl hz
      go_wp2
      go_ret
      exact ⟨_, rfl, HR.out, HB0.out, HB.out⟩
end Go.Proofs.Ytdlbibhekoobjaa
