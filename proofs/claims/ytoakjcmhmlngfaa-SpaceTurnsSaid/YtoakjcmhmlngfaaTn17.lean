/- Taking, where there is enough: at this translation. -/
import Derived.Test.YtoakjcmhmlngfaaTm17
import Derived.Test.YtoakjcmhmlngfaaTk17
namespace Go.Proofs.Ytoakjcmhmlngfaa
open Go.RowKit

theorem takeOk_parts {l : Lay} {M : List (List UInt8)} {zone n : Int} (h : takeOk l M zone n = true) : RightM l M ∧ ∃ zn nn : Nat, zone = zn ∧ n = nn ∧ zn < 4 ∧ nn ≤ 16000 ∧ (nn : Int) ≤ freeM l M := by
  simp only [takeOk, Bool.and_eq_true, decide_eq_true_eq] at h
  obtain ⟨h1, h2, h3, h4, h5⟩ := h
  have hR := rightM_iff.1 h1
  have hz := zN_of hR.ok
  have hf : freeM l M ≤ 16000 := by rw [freeM, h1]; simp only [if_true]; omega
  exact ⟨hR, zone.toNat, n.toNat, by omega, by omega, by omega, by omega, by omega⟩
/-- The step of a zone, where all that was asked or all that is free was taken. -/
theorem step_done {l : Lay} {M : List (List UInt8)} {zn nn k at_ : Nat} {M1 : List (List UInt8)} {S1 : List Int} {s : List UInt8} {t : Nat} (hst : takeUp l M zn nn k = (M1, S1)) (ha : (zn + k) % 4 = at_) (hs : M1[at_]? = some s)
    (_ : t ≤ (frees s (zN l)).length) (hd : t + S1.length = nn ∨ (t = (frees s (zN l)).length ∧ t + S1.length ≤ nn)) :
    takeUp l M zn nn (k + 1) = (M1.set at_ (setAll s ((frees s (zN l)).take t)), S1 ++ ((frees s (zN l)).take t).map fun (p : Nat) => l.f + (at_ : Nat) * l.z + p) := by
  have e1 : M1.getD at_ [] = s := by rw [List.getD_eq_getElem?_getD, hs]; rfl
  have e2 : (frees s (zN l)).take (nn - S1.length) = (frees s (zN l)).take t := by
    rcases hd with hd | ⟨hd, hd2⟩
    · rw [show nn - S1.length = t by omega]
    · rw [List.take_of_length_le (by omega), List.take_of_length_le (by omega)]
  rw [takeUp_succ, hst, takeStep, ha]
  simp only [e1, e2]
theorem set_id {M : List (List UInt8)} {i : Nat} {s : List UInt8} (h : M[i]? = some s) : M.set i s = M := by
  obtain ⟨h1, e1⟩ := List.getElem?_eq_some_iff.1 h
  rw [← e1]
  exact List.set_getElem_self h1
set_option maxRecDepth 100000 in
set_option maxHeartbeats 8000000 in
theorem Take_yes (l : Lay) (A : Option Addr) (n c : Nat) (M : List (List UInt8)) (zone nn : Int) (w : World) (h : IsG w 1 encT A n M) (hn : n ≤ 1000) (hA : A = none → n = 0 ∧ c = 0) (hs : ∀ s ∈ M, s.length ≤ 100000) (hk : takeOk l M zone nn = true) :
    Calls Try.prog 8 #[l.v, .slice A n c, .int .i64 zone, .int .i64 nn] w fun e w' => Told w w' e (takeV l M zone nn).1 (takeV l M zone nn).2.1 (takeV l M zone nn).2.2 := by
  have HV : Hid (takeV l M zone nn = ((takeUp l M zone.toNat nn.toNat 4).1, (takeUp l M zone.toNat nn.toNat 4).2, true)) := Lib.hid (by rw [takeV, hk]; rfl)
  rw [HV.out]
  clear HV
  obtain ⟨hR0, zn, m, rfl, rfl, hz4, hm, hfr⟩ := takeOk_parts hk
  have HR := Lib.hid hR0
  have hR : rightM l M = true := rightM_iff.2 hR0
  have n4 : n = 4 := by rw [← h.length]; exact hR0.four
  subst n4
  rw [Int.toNat_natCast, Int.toNat_natCast]
  have hzz := zN_of hR0.ok
  obtain ⟨zz, Hzz⟩ : ∃ x, Hid (zN l = x) := ⟨_, Lib.hid rfl⟩
  rw [Hzz.out] at hzz
  obtain ⟨hz1, hz2, hz3⟩ := hzz
  have Hz1 := Lib.hid hz1
  obtain ⟨fr, Hfr⟩ : ∃ x, Hid (freeM l M = x) := ⟨_, Lib.hid rfl⟩
  rw [Hfr.out] at hfr
  obtain ⟨TU, HTU⟩ : ∃ T, Hid (takeUp l M zn m = T) := ⟨_, Lib.hid rfl⟩
  rw [HTU.out]
  clear hk hz1 hR0
  obtain ⟨W, p, HW, Hp, HL⟩ := layBoxed l w
  have Lw : Hid (Below w.heap.size w W) := Lib.hid HL.out.2
  have hG := Lib.hid (h.below HL.out.2)
  clear h
  go_enter Try.func8, Try.ntmps8
  go_wp2_with fail
  rw [HW.out, Hp.out]
  go_step3
  go_wp2_with fail
  refine (CloneS_any W A 4 c M hG.out hn hA).mono ?_
  rintro e w1 ⟨A1, c1, rfl, hr1, hn1, hb1⟩
  obtain ⟨mb, off, rfl, hmb, _⟩ := (hr1.is encT_ok).1.cells (by omega)
  have C1 : Hid (RG w1 1 encT (.slice (some ⟨mb, off, none⟩) 4 c1) M ∧ W.heap.size ≤ mb ∧ Below W.heap.size W w1 ∧ mb < w1.heap.size) := Lib.hid ⟨hr1, hn1 mb rfl, hb1, hmb⟩
  clear hr1 hn1 hb1 hmb
  obtain ⟨q, Hq⟩ : ∃ q, Hid (w1.heap.size = q) := ⟨_, Lib.hid rfl⟩
  obtain ⟨w2, Hw2⟩ : ∃ u, Hid (w1.alloc (.cells #[.slice (some ⟨mb, off, none⟩) 4 c1] 26) = u) := ⟨_, Lib.hid rfl⟩
  have D2 : Hid (w2.cell? ⟨q, 0, none⟩ = some (.slice (some ⟨mb, off, none⟩) 4 c1) ∧ RG w2 1 encT (.slice (some ⟨mb, off, none⟩) 4 c1) M ∧ Below W.heap.size W w2 ∧ LayAt w2 p l ∧ IsG w2 1 encT A 4 M ∧ q < w2.heap.size) := Lib.hid (by
    have b : Below w1.heap.size w1 w2 := by rw [← Hw2.out]; exact balloc (Below.refl _ _) _
    have bW := bnext C1.out.2.2.1 b
    exact ⟨by rw [← Hw2.out, ← Hq.out]; simp [go_sem], C1.out.1.below b, bW, HL.out.1.below bW, hG.out.below bW, by rw [← Hw2.out, ← Hq.out]; simp⟩)
  obtain ⟨e0, e1, e2, e3⟩ := D2.out.2.2.2.1
  rw [← Hw2.out] at e0 e1 e2 e3
  have eq := D2.out.1
  go_wp2_with fail
  rw [Hw2.out, Hq.out]
  refine (SRight_any l A 4 c M w2 D2.out.2.2.2.2.1 hs).mono ?_
  rw [hR]
  rintro e w3 ⟨rfl, b3⟩
  have D3 : Hid (w3.cell? ⟨q, 0, none⟩ = some (.slice (some ⟨mb, off, none⟩) 4 c1) ∧ RG w3 1 encT (.slice (some ⟨mb, off, none⟩) 4 c1) M ∧ Below W.heap.size W w3 ∧ LayAt w3 p l ∧ IsG w3 1 encT A 4 M ∧ w2.heap.size ≤ w3.heap.size) := Lib.hid ⟨(b3.cell (p := ⟨q, 0, none⟩) (lt_of_cell eq)).trans eq, D2.out.2.1.below b3, bnext D2.out.2.2.1 b3, D2.out.2.2.2.1.below b3, D2.out.2.2.2.2.1.below b3, b3.size⟩
  clear b3 e0 e1 e2 e3 eq
  obtain ⟨e0, e1, e2, e3⟩ := D3.out.2.2.2.1
  have eq := D3.out.1
  go_wp2_with fail
  refine (SFree_any l A 4 c M w3 D3.out.2.2.2.2.1 hs).mono ?_
  rw [Hfr.out]
  rintro e w4 ⟨rfl, b4⟩
  obtain ⟨r, Hr⟩ : ∃ r, Hid (w4.heap.size = r) := ⟨_, Lib.hid rfl⟩
  obtain ⟨w5, Hw5⟩ : ∃ u, Hid (w4.alloc (.cells #[.slice none 0 0] 30) = u) := ⟨_, Lib.hid rfl⟩
  have T5 : Hid (Tk w5 p q r l mb off c1 (.slice none 0 0) M [] ∧ Below w.heap.size w w5 ∧ w.heap.size ≤ r ∧ w.heap.size ≤ mb) := Lib.hid (by
    have b5 : Below w4.heap.size w4 w5 := by rw [← Hw5.out]; exact balloc (Below.refl _ _) _
    have b35 := bnext b4 b5
    have s1 : W.heap.size = w.heap.size + 1 := by rw [← HW.out]; simp
    have s2 := Hp.out
    have s3 := Hq.out
    have s4 := Hr.out
    have s5 := C1.out.2.1
    have s6 := C1.out.2.2.2
    have s7 := D2.out.2.2.2.2.2
    have s8 := D3.out.2.2.2.2.2
    have s9 := b4.size
    refine ⟨⟨D3.out.2.2.2.1.below b35, (b35.cell (p := ⟨q, 0, none⟩) (lt_of_cell D3.out.1)).trans D3.out.1, D3.out.2.1.below b35, by rw [← Hw5.out, ← Hr.out]; simp [go_sem], by rw [← Hw5.out, ← Hr.out]; simp [go_sem], RG.nil _ _ _, ⟨by omega, by omega, by omega, by omega, by omega⟩, fun g e => by cases e⟩, bnext Lw.out (bnext D3.out.2.2.1 b35), by omega, by omega⟩)
  clear b4 e0 e1 e2 e3 eq
  obtain ⟨e0, e1, e2, e3⟩ := T5.out.1.lay
  have hcall : ∀ args u, (callFunc 20 args).run Try.prog u = .ok (.enter 20 args) u := fun _ _ => rfl
  go_wp2_with fail
  rw [Hw5.out, Hr.out]
  go_step3
  go_wp2_with fail
  go_loopw [44] (fun i wr => ∃ k : Nat, k ≤ 4 ∧ i = .int .i64 k ∧ Hid (∃ v, Tk wr p q r l mb off c1 v (TU k).1 (TU k).2 ∧ (∀ g, blk v = some g → w.heap.size ≤ g) ∧ Below w.heap.size w wr)) (fun i _ => 4 - (intOf i).toNat)
  case atStart => exact ⟨0, Nat.zero_le _, rfl, Lib.hid ⟨_, by rw [← HTU.out]; exact T5.out.1, (fun g e => by cases e), T5.out.2.1⟩⟩
  case round =>
    clear e0 e1 e2 e3
    obtain ⟨k, hk4, rfl, HK⟩ := hrel
    by_cases hlt : k < 4
    · obtain ⟨at_, Hat⟩ : ∃ a, Hid ((zn + k) % 4 = a) := ⟨_, Lib.hid rfl⟩
      have hat4 : at_ < 4 := by have := Hat.out; omega
      have hat : ((zn : Int) + (k : Int)) % 4 = (at_ : Int) := by have := Hat.out; omega
      obtain ⟨M1, HM1⟩ : ∃ x, Hid ((TU k).1 = x) := ⟨_, Lib.hid rfl⟩
      obtain ⟨S1, HS1⟩ : ∃ x, Hid ((TU k).2 = x) := ⟨_, Lib.hid rfl⟩
      rw [HM1.out, HS1.out] at HK
      have Hst : Hid (takeUp l M zn m k = (M1, S1)) := Lib.hid (by rw [HTU.out, ← HM1.out, ← HS1.out])
      have HRk : Hid (RightM l M1) := Lib.hid (by have := takeUp_right HR.out zn m k; rw [Hst.out] at this; exact this)
      have hS1 : S1.length ≤ m := by have := takeUp_len l M zn m k; rw [Hst.out] at this; exact this
      obtain ⟨s, Hs⟩ : ∃ a, Hid (M1[at_]? = some a) := ⟨M1[at_]'(by have := HRk.out.four; omega), Lib.hid (List.getElem?_eq_getElem _)⟩
      have Hgood : Hid (Good zz s) := Lib.hid (by have := HRk.out.good s (List.mem_of_getElem? Hs.out); rwa [Hzz.out] at this)
      have hsl : s.length ≤ 100000 := by rw [Hgood.out.len]; exact Nat.le_trans (size_le _) (by decide)
      obtain ⟨F, HF⟩ : ∃ x, Hid (frees s zz = x) := ⟨_, Lib.hid rfl⟩
      obtain ⟨sl, Hsl⟩ : ∃ x, Hid (S1.length = x) := ⟨_, Lib.hid rfl⟩
      rw [Hsl.out] at hS1
      have HD : Hid (∀ t, t ≤ F.length → (t + sl = m ∨ (t = F.length ∧ t + sl ≤ m)) → TU (k + 1) = (M1.set at_ (setAll s (F.take t)), S1 ++ (F.take t).map fun (p : Nat) => l.f + (at_ : Nat) * l.z + p)) := Lib.hid (fun t h1 h2 => by
        have h3 := step_done Hst.out Hat.out Hs.out (t := t) (by rw [Hzz.out, HF.out]; exact h1) (by rw [Hzz.out, HF.out, Hsl.out]; exact h2)
        rw [Hzz.out, HF.out, HTU.out] at h3
        exact h3)
      go_wp2_with fail
      try rw [show decide ((k : Int) < 4) = true from decide_eq_true (by omega)]
      rw [hat]
      go_loopw [16] (fun pv wq => ∃ t pl : Nat, pv = .int .i64 pl ∧ pl ≤ 4000 ∧ t ≤ F.length ∧ t + sl ≤ m ∧ Hid ((t = 0 ∧ pl ≤ 2) ∨ ∃ t', t = t' + 1 ∧ F[t']? = some pl) ∧ Hid (∃ v, Tk wq p q r l mb off c1 v (M1.set at_ (setAll s (F.take t))) (S1 ++ (F.take t).map fun (p : Nat) => l.f + (at_ : Nat) * l.z + p) ∧ (∀ g, blk v = some g → w.heap.size ≤ g) ∧ Below w.heap.size w wq)) (fun _ wq => m - lenAt wq r)
      case atStart =>
        obtain ⟨v1, h1, h2, h3⟩ := HK.out
        refine ⟨0, 2, rfl, by omega, Nat.zero_le _, by omega, Lib.hid (.inl ⟨rfl, Nat.le_refl _⟩), Lib.hid ⟨v1, ?_, h2, h3⟩⟩
        rw [List.take_zero, show setAll s [] = s from rfl, set_id Hs.out, List.map_nil, List.append_nil]
        exact h1
      case round =>
        obtain ⟨t, pl, rfl, hpl, ht, hts, Hpl, HQ⟩ := hrel
        obtain ⟨v2, hQ⟩ : ∃ v, Hid (Tk wr p q r l mb off c1 v (M1.set at_ (setAll s (F.take t))) (S1 ++ (F.take t).map fun (p : Nat) => l.f + (at_ : Nat) * l.z + p) ∧ (∀ g, blk v = some g → w.heap.size ≤ g) ∧ Below w.heap.size w wr) := by
          obtain ⟨v, h⟩ := HQ.out
          exact ⟨v, Lib.hid h⟩
        clear HQ
        have Hln : Hid ((S1 ++ (F.take t).map fun (p : Nat) => l.f + (at_ : Nat) * l.z + p).length = sl + t) := Lib.hid (by rw [List.length_append, List.length_map, List.length_take, Hsl.out]; omega)
        obtain ⟨A5, c5, rfl⟩ : ∃ A5 c5, v2 = .slice A5 (sl + t) c5 := by
          obtain ⟨A5, c5, e⟩ := hQ.out.1.srow.shape
          exact ⟨A5, c5, by rw [e, Hln.out]⟩
        have k0 := hQ.out.1.sr
        have k1 := hQ.out.1.mq
        obtain ⟨e0, e1, e2, e3⟩ := hQ.out.1.lay
        rw [Hz1.out] at e3
        have Hmeas := Lib.hid (lenAt_of k0)
        by_cases hc : sl + t < m
        · have hgs : (M1.set at_ (setAll s (F.take t)))[at_]? = some (setAll s (F.take t)) := by
            rw [List.getElem?_set_self]
            have := HRk.out.four
            omega
          have hd := hQ.out.1.mrow.cell encT_ok hgs (j := 0) rfl
          rw [Nat.mul_one, Nat.add_zero] at hd
          obtain ⟨d0, _⟩ := hd
          have hsl2 : (setAll s (F.take t)).length ≤ 100000 := by rw [setAll_length]; exact hsl
          have NF := Lib.hid (next_free_at Hgood.out t pl (by rw [HF.out]; exact ht) (by rw [HF.out]; exact Hpl.out))
          rw [HF.out] at NF
          have Hgs := Lib.hid hgs
          clear hgs
          obtain ⟨s2, Hs2⟩ : ∃ x, Hid (setAll s (F.take t) = x) := ⟨_, Lib.hid rfl⟩
          rw [Hs2.out] at hsl2 d0 NF
          have Hgs2 : Hid ((M1.set at_ s2)[at_]? = some s2) := Lib.hid (by rw [← Hs2.out]; exact Hgs.out)
          obtain ⟨N, HN⟩ : ∃ x, Hid (Bm.next s2 pl false = x) := ⟨_, Lib.hid rfl⟩
          rw [HN.out] at NF
          have hI : (sl : Int) + (t : Int) < (m : Int) := by omega
          have hI2 : ((sl + t : Nat) : Int) < (m : Int) := by omega
          go_wp2_with fail
          refine (First_any s2 hsl2 (pl : Int) (by omega) _).mono ?_
          rw [Int.toNat_natCast, HN.out]
          rintro e w6 ⟨rfl, rfl⟩
          by_cases hft : t < F.length
          · obtain ⟨x, Hx⟩ : ∃ x, Hid (F[t]? = some x) := ⟨F[t], Lib.hid (List.getElem?_eq_getElem hft)⟩
            have hxz : x < zz := by
              have := List.mem_of_getElem? Hx.out
              rw [← HF.out] at this
              exact (mem_frees.1 this).1
            obtain rfl : N = (x : Int) := NF.out.1 x Hx.out
            have hx0 : ¬ (x : Int) < 0 := by omega
            have hx1 : ¬ (zz : Int) ≤ (x : Int) := by omega
            have hx2 : (x : Int) < (zz : Int) := by omega
            have HF1 : Hid (F.take (t + 1) = F.take t ++ [x]) := Lib.hid (by
              obtain ⟨h1, e1⟩ := List.getElem?_eq_some_iff.1 Hx.out
              rw [List.take_succ_eq_append_getElem h1, e1])
            go_wp2_with fail
            refine (gather_any hQ.out.1 HRk.out.ok (by rw [Hln.out]; omega) at_ hat4 (by rw [List.length_set]; exact HRk.out.four) s2 (by rw [Hs2.out]; exact Hgs2.out) hsl2 x (by omega)).mono ?_
            rintro e w7 ⟨rfl, v3, h3, t3⟩
            have F7 : Hid (Tk w7 p q r l mb off c1 v3 (M1.set at_ (setAll s (F.take (t + 1)))) (S1 ++ (F.take (t + 1)).map fun (p : Nat) => l.f + (at_ : Nat) * l.z + p) ∧ (∀ g, blk v3 = some g → w.heap.size ≤ g) ∧ Below w.heap.size w w7) := Lib.hid (by
              have hB := hQ.out.2.2
              refine ⟨?_, fun g e => ?_, ?_⟩
              · rw [HF1.out, setAll_snoc, Hs2.out, List.map_append, ← List.append_assoc]
                rw [List.set_set] at h3
                exact h3
              · rcases t3.new g e with e | e
                · exact hQ.out.2.1 g e
                · exact Nat.le_trans hB.size e
              · refine t3.mod.below hB hB.size fun b hb => ?_
                rcases hb with rfl | rfl | hb
                · exact T5.out.2.2.1
                · exact T5.out.2.2.2
                · exact hQ.out.2.1 b hb)
            have Hm7 : Hid (lenAt w7 r = sl + (t + 1)) := Lib.hid (by
              obtain ⟨A7, c7, e⟩ := F7.out.1.srow.shape
              have h1 := F7.out.1.sr
              rw [e] at h1
              rw [lenAt_of h1, List.length_append, List.length_map, List.length_take, Hsl.out]
              omega)
            clear h3 t3 d0 k0 k1 e0 e1 e2 e3
            go_wp2
            go_roundw
            case rel => exact ⟨t + 1, x, rfl, by omega, by omega, by omega, Lib.hid (.inr ⟨t, rfl, Hx.out⟩), Lib.hid ⟨v3, F7.out⟩⟩
            case measure => rw [Hm7.out, Hmeas.out]; omega
          · have htF : t = F.length := by omega
            have HE := Lib.hid (HD.out t ht (.inr ⟨htF, hts⟩))
            rcases NF.out.2 htF with hN | hN
            · go_wp2
              go_roundw
              case rel => exact ⟨k + 1, by omega, by go_num, Lib.hid ⟨_, by rw [HE.out]; exact hQ.out.1, hQ.out.2⟩⟩
              case measure => simp [intOf]; omega
            · have hN0 : ¬ N < 0 := by omega
              go_wp2
              go_roundw
              case rel => exact ⟨k + 1, by omega, by go_num, Lib.hid ⟨_, by rw [HE.out]; exact hQ.out.1, hQ.out.2⟩⟩
              case measure => simp [intOf]; omega
        · have HE := Lib.hid (HD.out t ht (.inl (by omega)))
          have hI : ¬ (sl : Int) + (t : Int) < (m : Int) := by omega
          have hI2 : ¬ ((sl + t : Nat) : Int) < (m : Int) := by omega
          go_wp2
          go_roundw
          case rel => exact ⟨k + 1, by omega, by go_num, Lib.hid ⟨_, by rw [HE.out]; exact hQ.out.1, hQ.out.2⟩⟩
          case measure => simp [intOf]; omega
    · obtain rfl : k = 4 := by omega
      obtain ⟨v2, hQ⟩ : ∃ v, Hid (Tk wr p q r l mb off c1 v (TU 4).1 (TU 4).2 ∧ (∀ g, blk v = some g → w.heap.size ≤ g) ∧ Below w.heap.size w wr) := by
        obtain ⟨v, h⟩ := HK.out
        exact ⟨v, Lib.hid h⟩
      obtain ⟨A5, n5, c5, rfl⟩ : ∃ A5 n5 c5, v2 = .slice A5 n5 c5 := by
        obtain ⟨A5, c5, e⟩ := hQ.out.1.srow.shape
        exact ⟨A5, _, c5, e⟩
      have k0 := hQ.out.1.sr
      have k1 := hQ.out.1.mq
      have hrl := lt_of_cell k0
      have hql := lt_of_cell k1
      have q0 : ∀ y : In (Abv wr), y.u.cell? ⟨q, 0, none⟩ = some (.slice (some ⟨mb, off, none⟩) 4 c1) := fun y => (y.is.cell (p := ⟨q, 0, none⟩) hql).trans k1
      have q1 : ∀ y : In (Abv wr), y.u.cell? ⟨r, 0, none⟩ = some (.slice A5 n5 c5) := fun y => (y.is.cell (p := ⟨r, 0, none⟩) hrl).trans k0
      go_wp2_with fail
      refine wp_region_mix (by kernel_rfl) (Cls (Abv wr)) [(0, 0), (1, 0), (2, 0), (3, 0), (4, 0)] (by kernel_rfl) (cls (Below.refl _ _).drew) ?_
      repeat (refine mix0 rfl (fun K hK => ?_); go_simp; refine hK _ ?_; clear hK K)
      refine mixEnd ?_
      clear q0 q1
      have FT : Hid (Told w wr.drew (.returned (.tuple #[.slice (some ⟨mb, off, none⟩) 4 c1, .slice A5 n5 c5, .bool true])) (TU 4).1 (TU 4).2 true) := Lib.hid ⟨⟨_, _, _, _, rfl, hQ.out.1.mrow.below (Below.refl _ _).drew, hQ.out.1.srow.below (Below.refl _ _).drew, (fun g e => by cases e; exact T5.out.2.2.2), hQ.out.2.1, (fun g e e2 => by cases e2; exact (hQ.out.1.nv _ e).2.2.2 rfl), .inr rfl⟩, hQ.out.2.2.drew⟩
      go_wp2
      rw [Exit.noGoto_ret]
      go_ret3
      exact FT.out
theorem Take_any (l : Lay) (A : Option Addr) (n c : Nat) (M : List (List UInt8)) (zone nn : Int) (w : World) (h : IsG w 1 encT A n M) (hn : n ≤ 1000) (hA : A = none → n = 0 ∧ c = 0) (hs : ∀ s ∈ M, s.length ≤ 100000) :
    Calls Try.prog 8 #[l.v, .slice A n c, .int .i64 zone, .int .i64 nn] w fun e w' => Told w w' e (takeV l M zone nn).1 (takeV l M zone nn).2.1 (takeV l M zone nn).2.2 := by
  cases hk : takeOk l M zone nn with
  | false => exact Take_no l A n c M zone nn w h hn hA hs hk
  | true => exact Take_yes l A n c M zone nn w h hn hA hs hk
end Go.Proofs.Ytoakjcmhmlngfaa
