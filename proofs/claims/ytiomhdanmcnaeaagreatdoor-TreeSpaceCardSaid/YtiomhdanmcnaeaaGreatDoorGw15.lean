/- Lists put together anew: slices.Grow, Concat, Clone at entries; at this translation. -/
import Derived.Test.YtiomhdanmcnaeaaGreatDoorOe15
import Derived.Lib.AppendZerosOnto
namespace Go.Proofs.YtiomhdanmcnaeaaGreatDoor
open Go.RowKit

theorem nInfo : ∃ i0, Tryz.prog.info? 82 = some i0 ∧ i0.zero = some (.agg #[.string ByteArray.empty, .int .i64 0]) ∧ i0.size = 2 ∧ i0.bytes = 24 := by
  have h := nInfo0
  cases hq : Tryz.prog.info? 82 with
  | none => rw [hq] at h; cases h
  | some i0 =>
    rw [hq] at h
    simp only [Option.map_some, Option.some.injEq, Prod.mk.injEq] at h
    exact ⟨i0, rfl, h.1, h.2.1, h.2.2⟩
theorem grow_row (w : World) (n : Nat) (h0 : 0 < n) (hn : n ≤ 100000) (ty : TypeId) : ∃ c w', (Builtin.append_ #[72, 3] ty #[.slice none 0 0, .int .i64 (n : Int)]).run Tryz.prog w = .ok (.slice (some ⟨w.heap.size, 0, none⟩) n c) w' ∧ n ≤ c ∧ RG w' 2 encN (.slice (some ⟨w.heap.size, 0, none⟩) 0 c) ([] : List Ent) ∧ Below w.heap.size w w' := by
  obtain ⟨i0, hi0, hz0, hz1, hz2⟩ := nInfo
  have h := Lib.run_append_nil_zeros (P := Tryz.prog) w 72 3 ty 82 i0 _ .i64 .i64 Tryz.underlying72 Tryz.underlying3 hi0 hz0 n h0 (by rw [hz1]; decide) (by omega) (by rw [hz2]; omega)
  have hge := grownCap_ge w n 0 82
  refine ⟨_, _, h, hge, ⟨⟨by simp [flat], .inr ⟨w.heap.size, 0, _, rfl, by simp, Nat.zero_le _, grownCap_le_maxLen w _ _ _ (by unfold maxLen; omega), fun j u hu => by simp [flat] at hu, fun j hj => ?_, fun j _ => ?_⟩⟩⟩, balloc (Below.refl _ _).drew _⟩
  · rw [World.cell?_alloc_at _ _ _ _ (by rfl)]
    have hs : (Builtin.zeroCells (Value.agg #[.string ByteArray.empty, .int .i64 0]).cells n ++ Builtin.zeroCells (Value.agg #[.string ByteArray.empty, .int .i64 0]).cells (grownCap w n 0 82 - n)).size = grownCap w n 0 82 * 2 := by
      rw [Array.size_append, size_zeroCells, size_zeroCells, show (Value.agg #[.string ByteArray.empty, .int .i64 0]).cells.size = 2 from rfl]
      omega
    rw [Array.getElem?_eq_getElem (by rw [hs]; simp at hj ⊢; omega)]
    rfl
  · have e : (⟨w.heap.size, 0 + j, none⟩ : Addr) = ⟨w.drew.heap.size, 0 + j, none⟩ := rfl
    rw [e, World.frozen?_alloc_mark]
    simp
set_option maxRecDepth 100000 in
set_option maxHeartbeats 4000000 in
theorem Grow_any (n : Nat) (hn : n ≤ 100000) (w : World) :
    Calls Tryz.prog 119 #[.slice none 0 0, .int .i64 (n : Int)] w fun e w' => ∃ v, e = .returned v ∧ RG w' 2 encN v ([] : List Ent) ∧ (∀ g, blk v = some g → w.heap.size ≤ g) ∧ Below w.heap.size w w' := by
  have hneg : ¬ (n : Int) < 0 := by omega
  rcases Nat.eq_zero_or_pos n with h0 | h0
  · subst h0
    go_enter Tryz.func119, Tryz.ntmps119
    go_wp2
    go_ret
    exact ⟨_, rfl, RG.nil _ _ _, (fun g e => by cases e), Below.refl _ _⟩
  · have hp : (0 : Int) < (n : Int) := by omega
    obtain ⟨c, w1, hr, hc, hg, hb⟩ := grow_row w n h0 hn 72
    have HR := Lib.hid hr
    have HT : Hid (RG w1 2 encN (.slice (some ⟨w.heap.size, 0, none⟩) 0 c) ([] : List Ent) ∧ Below w.heap.size w w1) := Lib.hid ⟨hg, hb⟩
    clear hr hg hb
    go_enter Tryz.func119, Tryz.ntmps119
    go_wp2_with (first | (at_builtin; refine Lib.wpList_append_run _ rfl (.tmp 20) (.tmp 21) _ _ rfl _ _ rfl rfl _ _ (by exact HR.out) ?_) | fail)
    go_ret
    exact ⟨_, rfl, HT.out.1, fun g e => by injection e with e; rw [← e]; exact Nat.le_refl _, HT.out.2⟩
def sumTo (ns : Nat → Nat) : Nat → Nat
  | 0 => 0
  | j + 1 => sumTo ns j + ns j
def catTo (ls : Nat → List Ent) : Nat → List Ent
  | 0 => []
  | j + 1 => catTo ls j ++ ls j
theorem catTo_len {ls : Nat → List Ent} {ns : Nat → Nat} : ∀ {m : Nat}, (∀ j, j < m → (ls j).length = ns j) → (catTo ls m).length = sumTo ns m
  | 0, _ => rfl
  | m + 1, h => by
    rw [catTo, List.length_append, catTo_len (fun j hj => h j (by omega)), h m (by omega), sumTo]
theorem sumTo_le (ns : Nat → Nat) {m : Nat} : ∀ {j : Nat}, j ≤ m → sumTo ns j ≤ sumTo ns m := by
  induction m with
  | zero => intro j hj; rw [show j = 0 by omega]; exact Nat.le_refl _
  | succ m ih =>
    intro j hj
    rcases Nat.lt_or_ge m j with h | h
    · rw [show j = m + 1 by omega]; exact Nat.le_refl _
    · exact Nat.le_trans (ih h) (by rw [sumTo]; omega)
set_option maxRecDepth 100000 in
set_option maxHeartbeats 4000000 in
theorem Concat_any (q m : Nat) (As : Nat → Option Addr) (ns cs : Nat → Nat) (ls : Nat → List Ent) (w : World) (hm : m ≤ 100) (hs : sumTo ns m ≤ 10000)
    (h : ∀ j, j < m → w.cell? ⟨q, j, none⟩ = some (.slice (As j) (ns j) (cs j)) ∧ IsG w 2 encN (As j) (ns j) (ls j)) :
    Calls Tryz.prog 110 #[.slice (some ⟨q, 0, none⟩) m m] w fun e w' => ∃ v, e = .returned v ∧ RG w' 2 encN v (catTo ls m) ∧ (∀ g, blk v = some g → w.heap.size ≤ g) ∧ Below w.heap.size w w' := by
  have H := Lib.hid h
  clear h
  go_enter Tryz.func110, Tryz.ntmps110
  go_wp2_with fail
  go_loopw [3, 11] (fun s i wr => ∃ j S : Nat, j ≤ m ∧ i = .int .i64 j ∧ s = .int .i64 S ∧ Hid (sumTo ns j = S) ∧ Hid (Below w.heap.size w wr)) (fun _ i _ => m - (intOf i).toNat)
  case atStart => exact ⟨0, 0, Nat.zero_le _, rfl, rfl, Lib.hid rfl, Lib.hid (Below.refl _ _)⟩
  case round =>
    obtain ⟨j, S, hj, rfl, rfl, HS, HB⟩ := hrel
    by_cases hlt : j < m
    · have hjm : (j : Int) < (m : Int) := by omega
      have hj0 : (0 : Int) ≤ (j : Int) := by omega
      obtain ⟨h1, h2⟩ := H.out j hlt
      have c0 := (HB.out.cell (p := ⟨q, j, none⟩) (lt_of_cell h1)).trans h1
      obtain ⟨nj, Hnj⟩ : ∃ x, Hid (ns j = x) := ⟨_, Lib.hid rfl⟩
      rw [Hnj.out] at c0
      have HS2 : Hid (sumTo ns (j + 1) = S + nj) := Lib.hid (by rw [sumTo, HS.out, Hnj.out])
      have hle : S + nj ≤ 10000 := by rw [← HS2.out]; exact Nat.le_trans (sumTo_le ns (by omega)) hs
      have hng : ¬ ((S : Int) + (nj : Int)) < 0 := by omega
      clear h1 h2
      go_wp2_with fail
      go_roundw
      case rel => exact ⟨j + 1, S + nj, by omega, by go_num, by go_num, HS2, HB⟩
      case measure => simp [intOf]; omega
    · obtain rfl : j = m := by omega
      have hjm : ¬ (j : Int) < (j : Int) := by omega
      have hSl : S ≤ 10000 := by rw [← HS.out]; exact hs
      go_wp2_with fail
      refine (Grow_any S (by omega) wr).mono ?_
      rintro e w2 ⟨v2, rfl, g2, n2, b2⟩
      have T2 : Hid (RG w2 2 encN v2 ([] : List Ent) ∧ (∀ g, blk v2 = some g → w.heap.size ≤ g) ∧ Below w.heap.size w w2) := Lib.hid ⟨g2, fun g e => Nat.le_trans HB.out.size (n2 g e), bnext HB.out b2⟩
      obtain ⟨A2, c2, rfl⟩ := g2.shape
      clear g2 n2 b2
      go_wp2_with fail
      go_loopw [6, 27] (fun v i wr => ∃ k : Nat, k ≤ j ∧ i = .int .i64 k ∧ Hid (RG wr 2 encN v (catTo ls k) ∧ (∀ g, blk v = some g → w.heap.size ≤ g) ∧ Below w.heap.size w wr)) (fun _ i _ => j - (intOf i).toNat)
      case atStart => exact ⟨0, Nat.zero_le _, rfl, Lib.hid T2.out⟩
      case round =>
        obtain ⟨k, hk, rfl, HV⟩ := hrel
        obtain ⟨A3, c3, rfl⟩ := HV.out.1.shape
        obtain ⟨dn, Hdn⟩ : ∃ dn, Hid ((catTo ls k).length = dn) := ⟨_, Lib.hid rfl⟩
        have hdl : dn = sumTo ns k := by rw [← Hdn.out]; exact catTo_len (fun i hi => (H.out i (by omega)).2.length)
        have hdl2 : dn ≤ 10000 := by rw [hdl]; exact Nat.le_trans (sumTo_le ns hk) hs
        have Hdl := Lib.hid hdl
        clear hdl
        rw [Hdn.out] at HV ⊢
        by_cases hkj : k < j
        · have hki : (k : Int) < (j : Int) := by omega
          have hk0 : (0 : Int) ≤ (k : Int) := by omega
          obtain ⟨h1, h2⟩ := H.out k hkj
          have c0 := (HV.out.2.2.cell (p := ⟨q, k, none⟩) (lt_of_cell h1)).trans h1
          have hsum : dn + ns k ≤ 10000 := by rw [Hdl.out]; exact Nat.le_trans (show sumTo ns k + ns k ≤ sumTo ns j from by rw [← sumTo]; exact sumTo_le ns (by omega)) hs
          obtain ⟨nk, Hnk⟩ : ∃ x, Hid (ns k = x) := ⟨_, Lib.hid rfl⟩
          obtain ⟨ck, Hck⟩ : ∃ x, Hid (cs k = x) := ⟨_, Lib.hid rfl⟩
          obtain ⟨Ak, HAk⟩ : ∃ x, Hid (As k = x) := ⟨_, Lib.hid rfl⟩
          rw [Hnk.out, Hck.out, HAk.out] at c0
          rw [Hnk.out] at hsum h2
          rw [HAk.out] at h2
          obtain ⟨v8, w8, hr8, r8, a8⟩ := appG nInf encN_ok HV.out.1 (c := ck) (h2.below HV.out.2.2) (by rw [Hdn.out]; omega) (by decide) 72
          have HR8 := Lib.hid hr8
          have F8 : Hid (RG w8 2 encN v8 (catTo ls (k + 1)) ∧ (∀ g, blk v8 = some g → w.heap.size ≤ g) ∧ Below w.heap.size w w8) := Lib.hid (by
            refine ⟨r8, fun g e => ?_, a8.mod.below HV.out.2.2 HV.out.2.2.size (fun i e => HV.out.2.1 i e)⟩
            rcases a8.blk with e2 | ⟨g2, e2, h2⟩
            · exact HV.out.2.1 g (e2 ▸ e)
            · rw [e2] at e
              obtain rfl := Option.some.inj e
              have := HV.out.2.2.size
              omega)
          clear h1 h2 hr8 r8 a8
          obtain ⟨A9, n9, c9, rfl⟩ : ∃ A9 n9 c9, v8 = .slice A9 n9 c9 := by
            obtain ⟨A9, c9, e⟩ := F8.out.1.shape
            exact ⟨A9, _, c9, e⟩
          go_wp2_with (first | (at_builtin; refine wpList_append_run rfl (.tmp 31) (.tmp 32) 72 rfl (by exact HR8.out) ?_) | fail)
          go_roundw
          case rel => exact ⟨k + 1, by omega, by go_num, F8⟩
          case measure => simp [intOf]; omega
        · obtain rfl : k = j := by omega
          have hki : ¬ (k : Int) < (k : Int) := by omega
          go_wp2
          go_ret
          exact ⟨_, rfl, HV.out⟩
set_option maxRecDepth 100000 in
set_option maxHeartbeats 4000000 in
theorem CloneE_any (w : World) (A : Option Addr) (n c : Nat) (l : List Ent) (h : IsG w 2 encN A n l) (hn : n ≤ 10000) (hA : A = none → n = 0 ∧ c = 0) :
    Calls Tryz.prog 97 #[.slice A n c] w fun e w' => ∃ v, e = .returned v ∧ RG w' 2 encN v l ∧ (∀ g, blk v = some g → w.heap.size ≤ g) ∧ Below w.heap.size w w' := by
  have hq := fun (w : World) => Lib.run_eql_slice_nil (P := Tryz.prog) w 72 82 A n c 0 0 Tryz.underlying72
  have H := Lib.hid h
  cases A with
  | none =>
    obtain ⟨rfl, rfl⟩ := hA rfl
    obtain rfl := List.eq_nil_of_length_eq_zero h.length
    go_enter Tryz.func97, Tryz.ntmps97
    go_wp2
    go_ret
    exact ⟨_, rfl, RG.nil _ _ _, (fun g e => by cases e), Below.refl _ _⟩
  | some ad =>
    obtain ⟨U, HU⟩ : ∃ U, Hid (w.alloc (.cells #[] 82) = U) := ⟨_, Lib.hid rfl⟩
    obtain ⟨p, Hp⟩ : ∃ p, Hid (w.heap.size = p) := ⟨_, Lib.hid rfl⟩
    have hbU : Below w.heap.size w U := by rw [← HU.out]; exact balloc (Below.refl _ _) _
    have hR : RG U 2 encN (.slice (some ⟨p, 0, none⟩) 0 0) ([] : List Ent) := by
      rw [← HU.out, ← Hp.out]
      exact ⟨⟨rfl, .inr ⟨w.heap.size, 0, 0, rfl, by simp, Nat.le_refl _, Nat.zero_le _, fun j u hu => by simp [flat] at hu, fun j hj => by simp at hj, fun j hj => by simp at hj⟩⟩⟩
    obtain ⟨v2, w2, hr2, r2, a2⟩ := appG nInf encN_ok hR (c := c) (H.out.below hbU) (by simp; omega) (by decide) 72
    have HR2 := Lib.hid hr2
    have N2 : Hid (RG w2 2 encN v2 l ∧ (∀ g, blk v2 = some g → w.heap.size ≤ g) ∧ Below w.heap.size w w2) := Lib.hid (by
      have hn0 : ∀ g, blk (.slice (some ⟨p, 0, none⟩) 0 0) = some g → w.heap.size ≤ g := fun g e => by
        simp [blk] at e
        rw [Hp.out]; omega
      refine ⟨r2, fun q e => ?_, a2.mod.below hbU hbU.size hn0⟩
      rcases a2.blk with e2 | ⟨q2, e2, hq2⟩
      · exact hn0 q (e2 ▸ e)
      · rw [e2] at e
        obtain rfl := Option.some.inj e
        have := hbU.size
        omega)
    clear h H hA hbU hR hr2 r2 a2
    go_enter Tryz.func97, Tryz.ntmps97
    go_wp2_with (first | (at_builtin; rw [HU.out, Hp.out]; refine wpList_append_run rfl (.tmp 5) (.tmp 6) 72 rfl (by exact HR2.out) ?_) | fail)
    go_ret
    exact ⟨_, rfl, N2.out⟩
end Go.Proofs.YtiomhdanmcnaeaaGreatDoor
