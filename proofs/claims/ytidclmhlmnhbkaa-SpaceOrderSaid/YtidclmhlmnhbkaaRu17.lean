
/- Taking: the document's, at this translation. -/
import Derived.Test.YtidclmhlmnhbkaaTn17
import Derived.Test.YtidclmhlmnhbkaaGv17
import Derived.Test.YtidclmhlmnhbkaaRt17
namespace Go.Proofs.Ytidclmhlmnhbkaa
open Go.RowKit

structure ToldX (w w' : World) (e : Ending) (M : List (List UInt8)) (S : List Int) (t : Bool) : Prop where
  is : ∃ A n c v, e = .returned (.tuple #[.slice A n c, v, .bool t]) ∧ IsG w' 1 encT A n M ∧ RG w' 1 encI v S
  below : Below w.heap.size w w'
theorem frees_add (s : List UInt8) (k : Nat) : frees s (k + 1) = if Bm.bit s k then frees s k else frees s k ++ [k] := by
  unfold frees
  rw [List.range_succ, List.filter_append]
  cases h : Bm.bit s k <;> simp [h]
theorem frees_ahead (s : List UInt8) {k z : Nat} (h : k ≤ z) : (frees s z).take (frees s k).length = frees s k := by
  obtain ⟨d, rfl⟩ := Nat.exists_eq_add_of_le h
  clear h
  induction d with
  | zero => exact List.take_length
  | succ d ih =>
    rw [← Nat.add_assoc, frees_add]
    split
    · exact ih
    · have hle : (frees s k).length ≤ (frees s (k + d)).length := by
        have := congrArg List.length ih
        rw [List.length_take] at this
        omega
      rw [List.take_append_of_le_length hle]
      exact ih
/-- The bit that is looked at is as it was. -/
theorem has_same {z : Nat} {s : List UInt8} (h : Good z s) {k r : Nat} (hk : k ≤ z) : Bm.bit (setAll s ((frees s k).take r)) k = Bm.bit s k := by
  have h1 : ∀ p ∈ (frees s k).take r, p < k := fun p hp => (mem_frees.1 (List.mem_of_mem_take hp)).1
  have := size_z z h.z4
  rw [bit_setAll (fun p hp => by have := h1 p hp; rw [h.len]; omega)]
  have h2 : k ∉ (frees s k).take r := fun e => by have := h1 k e; omega
  simp [h2]
/-- The step of a zone, where the places ahead of k were looked at and that is all, or there is enough. -/
theorem step_seen {l : Lay} {M : List (List UInt8)} {zn nn i at_ : Nat} {M1 : List (List UInt8)} {S1 : List Int} {s : List UInt8} {k : Nat} (hst : takeUp l M zn nn i = (M1, S1)) (ha : (zn + i) % 4 = at_) (hs : M1[at_]? = some s)
    (hk : k ≤ zN l) (hd : k = zN l ∨ nn - S1.length ≤ (frees s k).length) :
    takeUp l M zn nn (i + 1) = (M1.set at_ (setAll s ((frees s k).take (nn - S1.length))), S1 ++ ((frees s k).take (nn - S1.length)).map fun (p : Nat) => l.f + (at_ : Nat) * l.z + p) := by
  have e1 : M1.getD at_ [] = s := by rw [List.getD_eq_getElem?_getD, hs]; rfl
  have e2 : (frees s (zN l)).take (nn - S1.length) = (frees s k).take (nn - S1.length) := by
    rcases hd with hd | hd
    · rw [hd]
    · have h1 := frees_ahead s hk
      rw [← h1, List.take_take, Nat.min_eq_left hd]
  rw [takeUp_succ, hst, takeStep, ha]
  simp only [e1, e2]
set_option maxRecDepth 100000 in
set_option maxHeartbeats 8000000 in
theorem YTake_no (l : Lay) (A : Option Addr) (n c : Nat) (M : List (List UInt8)) (zone nn : Int) (w : World) (h : IsG w 1 encT A n M) (hs : ∀ s ∈ M, s.length ≤ 100000) (hk : takeOk l M zone nn = false) :
    Calls Try.prog 17 #[l.v, .slice A n c, .int .i64 zone, .int .i64 nn] w fun e w' => ToldX w w' e (takeV l M zone nn).1 (takeV l M zone nn).2.1 (takeV l M zone nn).2.2 := by
  rw [takeV_no hk]
  obtain ⟨W, p, HW, Hp, HL⟩ := layBoxed l w
  have Lw : Hid (Below w.heap.size w W) := Lib.hid HL.out.2
  have hG := Lib.hid (h.below HL.out.2)
  have Hlen := Lib.hid h.length
  have hsm := h.small
  clear h
  cases hR : rightM l M with
  | false =>
    obtain ⟨e0, e1, e2, e3⟩ := HL.out.1
    go_enter Try.func17, Try.ntmps17
    go_wp2_with fail
    rw [HW.out, Hp.out]
    refine (YRight_any l A n c M W hG.out hs).mono ?_
    rw [hR]
    rintro e w3 ⟨rfl, b3⟩
    have D3 : Hid (Below W.heap.size W w3 ∧ IsG w3 1 encT A n M) := Lib.hid ⟨b3, hG.out.below b3⟩
    clear b3 e0 e1 e2 e3
    obtain ⟨e0, e1, e2, e3⟩ := HL.out.1.below D3.out.1
    have HT : Hid (ToldX w w3 (.returned (.tuple #[.slice A n c, .slice none 0 0, .bool false])) M [] false) := Lib.hid ⟨⟨A, n, c, .slice none 0 0, rfl, D3.out.2, RG.nil _ _ _⟩, bnext Lw.out D3.out.1⟩
    go_wp2
    go_ret3
    exact HT.out
  | true =>
    rw [takeOk, hR, Bool.true_and] at hk
    by_cases c1 : zone < 0
    · clear hk
      obtain ⟨e0, e1, e2, e3⟩ := HL.out.1
      go_enter Try.func17, Try.ntmps17
      go_wp2_with fail
      rw [HW.out, Hp.out]
      refine (YRight_any l A n c M W hG.out hs).mono ?_
      rw [hR]
      rintro e w3 ⟨rfl, b3⟩
      have D3 : Hid (Below W.heap.size W w3 ∧ IsG w3 1 encT A n M) := Lib.hid ⟨b3, hG.out.below b3⟩
      clear b3 e0 e1 e2 e3
      obtain ⟨e0, e1, e2, e3⟩ := HL.out.1.below D3.out.1
      have HT : Hid (ToldX w w3 (.returned (.tuple #[.slice A n c, .slice none 0 0, .bool false])) M [] false) := Lib.hid ⟨⟨A, n, c, .slice none 0 0, rfl, D3.out.2, RG.nil _ _ _⟩, bnext Lw.out D3.out.1⟩
      go_wp2
      go_ret3
      exact HT.out
    · skip
      by_cases c2 : 4 ≤ zone
      · clear hk
        have c2' : 3 < zone := by omega
        obtain ⟨e0, e1, e2, e3⟩ := HL.out.1
        go_enter Try.func17, Try.ntmps17
        go_wp2_with fail
        rw [HW.out, Hp.out]
        refine (YRight_any l A n c M W hG.out hs).mono ?_
        rw [hR]
        rintro e w3 ⟨rfl, b3⟩
        have D3 : Hid (Below W.heap.size W w3 ∧ IsG w3 1 encT A n M) := Lib.hid ⟨b3, hG.out.below b3⟩
        clear b3 e0 e1 e2 e3
        obtain ⟨e0, e1, e2, e3⟩ := HL.out.1.below D3.out.1
        have HT : Hid (ToldX w w3 (.returned (.tuple #[.slice A n c, .slice none 0 0, .bool false])) M [] false) := Lib.hid ⟨⟨A, n, c, .slice none 0 0, rfl, D3.out.2, RG.nil _ _ _⟩, bnext Lw.out D3.out.1⟩
        go_wp2
        go_ret3
        exact HT.out
      · skip
        by_cases c3 : nn < 0
        · clear hk
          have c2' : ¬ 3 < zone := by omega
          obtain ⟨e0, e1, e2, e3⟩ := HL.out.1
          go_enter Try.func17, Try.ntmps17
          go_wp2_with fail
          rw [HW.out, Hp.out]
          refine (YRight_any l A n c M W hG.out hs).mono ?_
          rw [hR]
          rintro e w3 ⟨rfl, b3⟩
          have D3 : Hid (Below W.heap.size W w3 ∧ IsG w3 1 encT A n M) := Lib.hid ⟨b3, hG.out.below b3⟩
          clear b3 e0 e1 e2 e3
          obtain ⟨e0, e1, e2, e3⟩ := HL.out.1.below D3.out.1
          have HT : Hid (ToldX w w3 (.returned (.tuple #[.slice A n c, .slice none 0 0, .bool false])) M [] false) := Lib.hid ⟨⟨A, n, c, .slice none 0 0, rfl, D3.out.2, RG.nil _ _ _⟩, bnext Lw.out D3.out.1⟩
          go_wp2
          go_ret3
          exact HT.out
        · skip
          have c2' : ¬ 3 < zone := by omega
          have c4 : freeM l M < nn := by
            have : ¬ nn ≤ freeM l M := fun e => by
              rw [decide_eq_true (by omega : (0 : Int) ≤ zone), decide_eq_true (by omega : zone < 4), decide_eq_true (by omega : (0 : Int) ≤ nn), decide_eq_true e] at hk
              cases hk
            omega
          clear hk
          obtain ⟨fr, Hfr⟩ : ∃ x, Hid (freeM l M = x) := ⟨_, Lib.hid rfl⟩
          rw [Hfr.out] at c4
          obtain ⟨e0, e1, e2, e3⟩ := HL.out.1
          go_enter Try.func17, Try.ntmps17
          go_wp2_with fail
          rw [HW.out, Hp.out]
          refine (YRight_any l A n c M W hG.out hs).mono ?_
          rw [hR]
          rintro e w3 ⟨rfl, b3⟩
          have D3 : Hid (Below W.heap.size W w3 ∧ IsG w3 1 encT A n M) := Lib.hid ⟨b3, hG.out.below b3⟩
          clear b3 e0 e1 e2 e3
          obtain ⟨e0, e1, e2, e3⟩ := HL.out.1.below D3.out.1
          go_wp2_with fail
          refine (YFree_any l A n c M w3 D3.out.2 hs).mono ?_
          rw [Hfr.out]
          rintro e w4 ⟨rfl, b4⟩
          have HT : Hid (ToldX w w4 (.returned (.tuple #[.slice A n c, .slice none 0 0, .bool false])) M [] false) := Lib.hid ⟨⟨A, n, c, .slice none 0 0, rfl, D3.out.2.below b4, RG.nil _ _ _⟩, bnext Lw.out (bnext D3.out.1 b4)⟩
          clear b4
          go_wp2
          go_ret3
          exact HT.out
set_option maxRecDepth 100000 in
set_option maxHeartbeats 8000000 in
theorem YTake_yes (l : Lay) (A : Option Addr) (n c : Nat) (M : List (List UInt8)) (zone nn : Int) (w : World) (h : IsG w 1 encT A n M) (hs : ∀ s ∈ M, s.length ≤ 100000) (hk : takeOk l M zone nn = true) :
    Calls Try.prog 17 #[l.v, .slice A n c, .int .i64 zone, .int .i64 nn] w fun e w' => ToldX w w' e (takeV l M zone nn).1 (takeV l M zone nn).2.1 (takeV l M zone nn).2.2 := by
  have HV : Hid (takeV l M zone nn = ((takeUp l M zone.toNat nn.toNat 4).1, (takeUp l M zone.toNat nn.toNat 4).2, true)) := Lib.hid (by rw [takeV, hk]; rfl)
  rw [HV.out]
  clear HV
  obtain ⟨hR0, zn, m, rfl, rfl, hz4, hm, hfr⟩ := takeOk_parts hk
  have HR := Lib.hid hR0
  have hR : rightM l M = true := rightM_iff.2 hR0
  have n4 : n = 4 := by rw [← h.length]; exact hR0.four
  subst n4
  rw [Int.toNat_natCast, Int.toNat_natCast]
  have hzz := zN_of hR0.ok
  obtain ⟨zz, Hzz⟩ : ∃ x, Hid (zN l = x) := ⟨_, Lib.hid rfl⟩
  rw [Hzz.out] at hzz
  obtain ⟨hz1, hz2, hz3⟩ := hzz
  have Hz1 := Lib.hid hz1
  obtain ⟨fr, Hfr⟩ : ∃ x, Hid (freeM l M = x) := ⟨_, Lib.hid rfl⟩
  rw [Hfr.out] at hfr
  obtain ⟨TU, HTU⟩ : ∃ T, Hid (takeUp l M zn m = T) := ⟨_, Lib.hid rfl⟩
  rw [HTU.out]
  have hfb : Hid (42 ≤ l.f ∧ l.f ≤ 322) := Lib.hid (LayOk.of hR0.ok).fb
  have hok := Lib.hid hR0.ok
  clear hk hz1 hR0
  obtain ⟨W, p, HW, Hp, HL⟩ := layBoxed l w
  have Lw : Hid (Below w.heap.size w W) := Lib.hid HL.out.2
  have hG := Lib.hid (h.below HL.out.2)
  have Hlen := Lib.hid h.length
  clear h
  obtain ⟨g0, o0, rfl, _, _⟩ := hG.out.cells (by omega)
  have c1 : ¬ (zn : Int) < 0 := by omega
  have c2 : ¬ 3 < (zn : Int) := by omega
  have c3 : ¬ (m : Int) < 0 := by omega
  have c4 : ¬ fr < (m : Int) := by omega
  obtain ⟨e0, e1, e2, e3⟩ := HL.out.1
  go_enter Try.func17, Try.ntmps17
  go_wp2_with fail
  rw [HW.out, Hp.out]
  refine (YRight_any l (some ⟨g0, o0, none⟩) 4 c M W hG.out hs).mono ?_
  rw [hR]
  rintro e w3 ⟨rfl, b3⟩
  have D3 : Hid (Below W.heap.size W w3 ∧ IsG w3 1 encT (some ⟨g0, o0, none⟩) 4 M) := Lib.hid ⟨b3, hG.out.below b3⟩
  clear b3 e0 e1 e2 e3
  obtain ⟨e0, e1, e2, e3⟩ := HL.out.1.below D3.out.1
  go_wp2_with fail
  refine (YFree_any l (some ⟨g0, o0, none⟩) 4 c M w3 D3.out.2 hs).mono ?_
  rw [Hfr.out]
  rintro e w1 ⟨rfl, b4⟩
  have b1 : Below W.heap.size W w1 := bnext D3.out.1 b4
  obtain ⟨v2, w2, hr2, r2, a2⟩ := appG tInf encT_ok (RG.nil w1 1 encT) (c := c) (hG.out.below b1) (by simp) (by decide) 24
  have HR2 := Lib.hid hr2
  have D2 : Hid (RG w2 1 encT v2 M ∧ (∀ g, blk v2 = some g → W.heap.size ≤ g) ∧ Below W.heap.size W w2) := Lib.hid (by
    have hn0 : ∀ g, blk (.slice none 0 0) = some g → W.heap.size ≤ g := fun g e => by cases e
    refine ⟨r2, fun q e => ?_, a2.mod.below b1 b1.size hn0⟩
    rcases a2.blk with e2 | ⟨q2, e2, hq2⟩
    · exact hn0 q (e2 ▸ e)
    · rw [e2] at e
      obtain rfl := Option.some.inj e
      have := b1.size
      omega)
  obtain ⟨A6, c6, rfl⟩ : ∃ A6 c6, v2 = .slice A6 4 c6 := by
    obtain ⟨A6, c6, e⟩ := D2.out.1.shape
    exact ⟨A6, c6, by rw [e, Hlen.out]⟩
  obtain ⟨mb, off, rfl, _, _⟩ := (D2.out.1.is encT_ok).1.cells (by omega)
  have hmW : Hid (W.heap.size ≤ mb) := Lib.hid (D2.out.2.1 mb rfl)
  clear b4 b1 hr2 r2 a2 e0 e1 e2 e3 c1 c2 c3 c4
  have c1 : ¬ (zn : Int) < 0 := by omega
  have c2 : ¬ 3 < (zn : Int) := by omega
  have c3 : ¬ (m : Int) < 0 := by omega
  have c4 : ¬ fr < (m : Int) := by omega
  go_wp2_with (first | (at_builtin; refine wpList_append_run rfl (.tmp 43) (.tmp 44) 24 rfl (by exact HR2.out) ?_) | fail)
  clear c1 c2 c3 c4
  go_loopw [13, 14] (fun v i wr => ∃ k : Nat, k ≤ 4 ∧ i = .int .i64 k ∧ Hid (RG wr 1 encT (.slice (some ⟨mb, off, none⟩) 4 c6) (TU k).1 ∧ RG wr 1 encI v (TU k).2 ∧ (∀ g, blk v = some g → W.heap.size ≤ g ∧ g ≠ mb) ∧ Below W.heap.size W wr)) (fun _ i _ => 4 - (intOf i).toNat)
  case atStart => exact ⟨0, Nat.zero_le _, rfl, Lib.hid ⟨by rw [← HTU.out]; exact D2.out.1, by rw [← HTU.out]; exact RG.nil _ _ _, (fun g e => by cases e), D2.out.2.2⟩⟩
  case round =>
    obtain ⟨k, hk4, rfl, HK⟩ := hrel
    obtain ⟨A5, c5, rfl⟩ := HK.out.2.1.shape
    obtain ⟨n5, Hn5⟩ : ∃ x, Hid ((TU k).2.length = x) := ⟨_, Lib.hid rfl⟩
    rw [Hn5.out] at HK ⊢
    by_cases hlt : k < 4
    · obtain ⟨at_, Hat⟩ : ∃ a, Hid ((zn + k) % 4 = a) := ⟨_, Lib.hid rfl⟩
      have hat4 : at_ < 4 := by have := Hat.out; omega
      have hat : ((zn : Int) + (k : Int)) % 4 = (at_ : Int) := by have := Hat.out; omega
      obtain ⟨M1, HM1⟩ : ∃ x, Hid ((TU k).1 = x) := ⟨_, Lib.hid rfl⟩
      obtain ⟨S1, HS1⟩ : ∃ x, Hid ((TU k).2 = x) := ⟨_, Lib.hid rfl⟩
      rw [HM1.out, HS1.out] at HK
      have Hst : Hid (takeUp l M zn m k = (M1, S1)) := Lib.hid (by rw [HTU.out, ← HM1.out, ← HS1.out])
      have HRk : Hid (RightM l M1) := Lib.hid (by have := takeUp_right HR.out zn m k; rw [Hst.out] at this; exact this)
      have hS1 : S1.length ≤ m := by have := takeUp_len l M zn m k; rw [Hst.out] at this; exact this
      obtain ⟨s, Hs⟩ : ∃ a, Hid (M1[at_]? = some a) := ⟨M1[at_]'(by have := HRk.out.four; omega), Lib.hid (List.getElem?_eq_getElem _)⟩
      have Hgood : Hid (Good zz s) := Lib.hid (by have := HRk.out.good s (List.mem_of_getElem? Hs.out); rwa [Hzz.out] at this)
      have hsl : s.length ≤ 100000 := by rw [Hgood.out.len]; exact Nat.le_trans (size_le _) (by decide)
      obtain ⟨sl, Hsl⟩ : ∃ x, Hid (S1.length = x) := ⟨_, Lib.hid rfl⟩
      rw [Hsl.out] at hS1
      have HD : Hid (∀ j, j ≤ zz → (j = zz ∨ m - sl ≤ (frees s j).length) → TU (k + 1) = (M1.set at_ (setAll s ((frees s j).take (m - sl))), S1 ++ ((frees s j).take (m - sl)).map fun (p : Nat) => l.f + (at_ : Nat) * l.z + p)) := Lib.hid (fun j h1 h2 => by
        have h3 := step_seen Hst.out Hat.out Hs.out (k := j) (by rw [Hzz.out]; exact h1) (by rw [Hzz.out, Hsl.out]; exact h2)
        rw [Hsl.out, HTU.out] at h3
        exact h3)
      go_wp2_with fail
      try rw [show decide ((k : Int) < 4) = true from decide_eq_true (by omega)]
      rw [hat]
      go_loopw [13, 16] (fun v i wq => ∃ j : Nat, j ≤ zz ∧ i = .int .i64 j ∧ Hid (RG wq 1 encT (.slice (some ⟨mb, off, none⟩) 4 c6) (M1.set at_ (setAll s ((frees s j).take (m - sl)))) ∧ RG wq 1 encI v (S1 ++ ((frees s j).take (m - sl)).map fun (p : Nat) => l.f + (at_ : Nat) * l.z + p) ∧ (∀ g, blk v = some g → W.heap.size ≤ g ∧ g ≠ mb) ∧ Below W.heap.size W wq)) (fun _ i _ => zz - (intOf i).toNat)
      case atStart =>
        refine ⟨0, Nat.zero_le _, rfl, Lib.hid ⟨?_, ?_, HK.out.2.2⟩⟩
        · rw [show frees s 0 = [] from rfl, List.take_nil, show setAll s [] = s from rfl, set_id Hs.out]
          exact HK.out.1
        · rw [show frees s 0 = [] from rfl, List.take_nil, List.map_nil, List.append_nil]
          exact HK.out.2.1
      case round =>
        obtain ⟨j, hj, rfl, HQ⟩ := hrel
        obtain ⟨t, Ht⟩ : ∃ x, Hid (((frees s j).take (m - sl)).length = x) := ⟨_, Lib.hid rfl⟩
        have Hln : Hid ((S1 ++ ((frees s j).take (m - sl)).map fun (p : Nat) => l.f + (at_ : Nat) * l.z + p).length = sl + t) := Lib.hid (by rw [List.length_append, List.length_map, Hsl.out, Ht.out])
        obtain ⟨A7, c7, rfl⟩ := HQ.out.2.1.shape
        rw [Hln.out] at HQ ⊢
        have htm : t ≤ m - sl := by rw [← Ht.out, List.length_take]; omega
        obtain ⟨e0, e1, e2, e3⟩ := HL.out.1.below HQ.out.2.2.2
        rw [Hz1.out] at e3
        by_cases hjz : j < zz
        · by_cases hc : sl + t < m
          · have Hall : Hid ((frees s j).take (m - sl) = frees s j) := Lib.hid (by
              have h1 := Ht.out
              rw [List.length_take] at h1
              exact List.take_of_length_le (by omega))
            have Hnext : Hid ((frees s (j + 1)).take (m - sl) = if Bm.bit s j then frees s j else frees s j ++ [j]) := Lib.hid (by
              have h1 := Ht.out
              rw [Hall.out] at h1
              rw [frees_add]
              split
              · exact List.take_of_length_le (by omega)
              · exact List.take_of_length_le (by rw [List.length_append]; simp; omega))
            have hbs := has_same Hgood.out (k := j) (r := m - sl) hj
            have hgs : (M1.set at_ (setAll s ((frees s j).take (m - sl))))[at_]? = some (setAll s ((frees s j).take (m - sl))) := by
              rw [List.getElem?_set_self]
              have := HRk.out.four
              omega
            have hd := HQ.out.1.cell encT_ok hgs (j := 0) rfl
            rw [Nat.mul_one, Nat.add_zero] at hd
            obtain ⟨d0, d1⟩ := hd
            have hsl2 : (setAll s ((frees s j).take (m - sl))).length ≤ 100000 := by rw [setAll_length]; exact hsl
            obtain ⟨s2, Hs2⟩ : ∃ x, Hid (setAll s ((frees s j).take (m - sl)) = x) := ⟨_, Lib.hid rfl⟩
            rw [Hs2.out] at hsl2 d0 hbs
            have hml := lt_of_cell d0
            obtain ⟨b, Hb⟩ : ∃ b, Hid (Bm.bit s j = b) := ⟨_, Lib.hid rfl⟩
            rw [Hb.out] at hbs Hnext
            have Hbs := Lib.hid hbs
            clear hbs hgs
            have z1 : (at_ : Int) < 4 := by omega
            have hI : (sl : Int) + (t : Int) < (m : Int) := by omega
            go_wp2_with fail
            refine (XHas_any s2 hsl2 (j : Int) (by omega) _).mono ?_
            rw [Bm.bitI_nat, Hbs.out]
            rintro e w5 ⟨rfl, rfl⟩
            cases b
            · have HN : Hid ((frees s (j + 1)).take (m - sl) = (frees s j).take (m - sl) ++ [j]) := Lib.hid (by rw [Hnext.out, Hall.out]; rfl)
              go_wp2_with fail
              refine (XSet_any s2 hsl2 (j : Int) (by omega) true _).mono ?_
              rw [Bm.setI_nat]
              rintro e w5 ⟨rfl, b5⟩
              obtain ⟨s3, Hs3⟩ : ∃ x, Hid (Bm.set s2 j true = x) := ⟨_, Lib.hid rfl⟩
              rw [Hs3.out]
              have y0 : w5.cell? ⟨mb, off + at_, none⟩ = some (.string (str s2)) := (b5.cell (p := ⟨mb, off + at_, none⟩) hml).trans d0
              have y1 : w5.frozen? ⟨mb, off + at_, none⟩ = false := ((Mod.of_below (S := fun _ => False) b5).frozen (p := ⟨mb, off + at_, none⟩) hml id).trans d1
              obtain ⟨w6, Hw6⟩ : ∃ u, Hid (w5.setCell ⟨mb, off + at_, none⟩ (.string (str s3)) = u) := ⟨_, Lib.hid rfl⟩
              have W6 : Hid (RG w6 1 encT (.slice (some ⟨mb, off, none⟩) 4 c6) (M1.set at_ (setAll s ((frees s (j + 1)).take (m - sl)))) ∧ RG w6 1 encI (.slice A7 (sl + t) c7) (S1 ++ ((frees s j).take (m - sl)).map fun (p : Nat) => l.f + (at_ : Nat) * l.z + p) ∧ Below W.heap.size W w6) := Lib.hid (by
                have h1 := HQ.out.1.below b5
                rw [Hs2.out] at h1
                have h2 := rowPut h1 (z := at_) (by rw [List.length_set, HRk.out.four]; exact hat4) s3
                rw [List.set_set, Hw6.out] at h2
                have m6 := (Mod.refl (· = mb) w5).set1 (o := off + at_) (.string (str s3))
                rw [Hw6.out] at m6
                have bW := bnext HQ.out.2.2.2 b5
                refine ⟨?_, (HQ.out.2.1.below b5).later m6 (fun g hg => (HQ.out.2.2.1 g hg).2), m6.below bW bW.size (fun i e => by rw [e]; exact hmW.out)⟩
                rw [HN.out, setAll_snoc, Hs2.out, Hs3.out]
                exact h2)
              clear e0 e1 e2 e3
              go_upto_region 17 with fail
              rw [Hw6.out]
              clear b5 y0 y1 d0 d1
              obtain ⟨e0, e1, e2, e3⟩ := HL.out.1.below W6.out.2.2
              rw [Hz1.out] at e3
              have hmb := mul_bds (LayOk.of hok.out) hat4
              rw [Hz1.out] at hmb
              have HmZ : Hid ((at_ : Int) * l.z = (at_ : Int) * (zz : Int)) := Lib.hid (by rw [Hz1.out])
              obtain ⟨PZ, hPZ⟩ : ∃ x : Int, (at_ : Int) * (zz : Int) = x := ⟨_, rfl⟩
              rw [hPZ] at hmb HmZ
              obtain ⟨p0, p1⟩ := hmb
              obtain ⟨f0, f1⟩ := hfb.out
              have hw1 : IntKind.i64.wrap PZ = PZ := IntWalk.i64_in _ (by omega)
              have hw2 : IntKind.i64.wrap (l.f + PZ) = l.f + PZ := IntWalk.i64_in _ (by omega)
              have hw3 : IntKind.i64.wrap (l.f + PZ + (j : Int)) = l.f + PZ + j := IntWalk.i64_in _ (by omega)
              obtain ⟨U, HU⟩ : ∃ u, Hid (w6.alloc (.cells #[.int .i64 (l.f + PZ + (j : Int))] 3) = u) := ⟨_, Lib.hid rfl⟩
              obtain ⟨sz, Hsz⟩ : ∃ s, Hid (w6.heap.size = s) := ⟨_, Lib.hid rfl⟩
              have hbU : Below w6.heap.size w6 U := by rw [← HU.out]; exact balloc (Below.refl _ _) _
              have hI2 : IsG U 1 encI (some ⟨sz, 0, none⟩) 1 [l.f + PZ + (j : Int)] := by rw [← HU.out, ← Hsz.out]; exact i_one w6 _
              obtain ⟨v8, w8, hr8, r8, a8⟩ := appG iInf encI_ok (W6.out.2.1.below hbU) (c := 1) hI2 (by rw [Hln.out]; omega) (by decide) 30
              have HR8 := Lib.hid hr8
              have F8 : Hid (RG w8 1 encT (.slice (some ⟨mb, off, none⟩) 4 c6) (M1.set at_ (setAll s ((frees s (j + 1)).take (m - sl)))) ∧ RG w8 1 encI v8 (S1 ++ ((frees s (j + 1)).take (m - sl)).map fun (p : Nat) => l.f + (at_ : Nat) * l.z + p) ∧ (∀ g, blk v8 = some g → W.heap.size ≤ g ∧ g ≠ mb) ∧ Below W.heap.size W w8) := Lib.hid (by
                have bU := bnext W6.out.2.2 hbU
                have hmU : mb < U.heap.size := (W6.out.1.below hbU).lt (g := mb) rfl
                refine ⟨(W6.out.1.below hbU).later a8.mod (fun g hg e => by cases hg; exact (HQ.out.2.2.1 _ e).2 rfl), ?_, fun g e => ?_, a8.mod.below bU bU.size (fun i e => (HQ.out.2.2.1 i e).1)⟩
                · rw [HN.out, List.map_append, List.map_singleton, ← List.append_assoc, HmZ.out]
                  rw [HmZ.out] at r8
                  exact r8
                · rcases a8.blk with e2 | ⟨g2, e2, h2⟩
                  · exact HQ.out.2.2.1 g (e2 ▸ e)
                  · rw [e2] at e
                    obtain rfl := Option.some.inj e
                    have := bU.size
                    exact ⟨by omega, by omega⟩)
              clear hbU hI2 hr8 r8 a8
              obtain ⟨A9, n9, c9, rfl⟩ : ∃ A9 n9 c9, v8 = .slice A9 n9 c9 := by
                obtain ⟨A9, c9, e⟩ := F8.out.2.1.shape
                exact ⟨A9, _, c9, e⟩
              go_wp2_with (first | (at_builtin; rw [HU.out, Hsz.out]; refine wpList_append_run rfl (.tmp 83) (.tmp 93) 30 rfl (by exact HR8.out) ?_) | fail)
              go_roundw
              case rel => exact ⟨j + 1, by omega, by go_num, F8⟩
              case measure => simp [intOf]; omega
            · have HN : Hid ((frees s (j + 1)).take (m - sl) = (frees s j).take (m - sl)) := Lib.hid (by rw [Hnext.out, Hall.out]; rfl)
              go_wp2
              go_roundw
              case rel => exact ⟨j + 1, by omega, by go_num, Lib.hid (by rw [HN.out]; exact HQ.out)⟩
              case measure => simp [intOf]; omega
          · have HE := Lib.hid (HD.out j hj (.inr (by have h1 := Ht.out; rw [List.length_take] at h1; omega)))
            have hI : ¬ (sl : Int) + (t : Int) < (m : Int) := by omega
            go_wp2
            go_roundw
            case rel => exact ⟨k + 1, by omega, by go_num, Lib.hid (by rw [HE.out]; exact HQ.out)⟩
            case measure => simp [intOf]; omega
        · have HE := Lib.hid (HD.out j hj (.inl (by omega)))
          go_wp2
          go_roundw
          case rel => exact ⟨k + 1, by omega, by go_num, Lib.hid (by rw [HE.out]; exact HQ.out)⟩
          case measure => simp [intOf]; omega
    · obtain rfl : k = 4 := by omega
      have FT : Hid (ToldX w wr (.returned (.tuple #[.slice (some ⟨mb, off, none⟩) 4 c6, .slice A5 n5 c5, .bool true])) (TU 4).1 (TU 4).2 true) := Lib.hid ⟨⟨_, _, _, _, rfl, (HK.out.1.is encT_ok).1, HK.out.2.1⟩, bnext Lw.out HK.out.2.2.2⟩
      go_wp2
      go_ret3
      exact FT.out
theorem YTake_any (l : Lay) (A : Option Addr) (n c : Nat) (M : List (List UInt8)) (zone nn : Int) (w : World) (h : IsG w 1 encT A n M) (hs : ∀ s ∈ M, s.length ≤ 100000) :
    Calls Try.prog 17 #[l.v, .slice A n c, .int .i64 zone, .int .i64 nn] w fun e w' => ToldX w w' e (takeV l M zone nn).1 (takeV l M zone nn).2.1 (takeV l M zone nn).2.2 := by
  cases hk : takeOk l M zone nn with
  | false => exact YTake_no l A n c M zone nn w h hs hk
  | true => exact YTake_yes l A n c M zone nn w h hs hk
end Go.Proofs.Ytidclmhlmnhbkaa
