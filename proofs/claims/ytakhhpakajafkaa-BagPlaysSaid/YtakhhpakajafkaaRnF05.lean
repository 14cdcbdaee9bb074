/- What the document's network does: Any. -/
import Derived.Test.YtakhhpakajafkaaRnD05
import Derived.Test.YtakhhpakajafkaaRnE05
namespace Go.Proofs.Ytakhhpakajafkaa
open Go.RowKit

def pclV (q : Pcl) : Value := .agg #[.int .i64 q.1, .int .i64 q.2.1, .string (str q.2.2)]
theorem RDid.from {w wk w' : World} {B c : Nat} {v : Value} {L' : List Pcl} {x : Value} {e : Ending} (m : Below w.heap.size w wk) (h : RDid wk B c v L' x e w') : RDid w B c v L' x e w' := by
  obtain ⟨he, v', h1, h2, h3⟩ := h
  exact ⟨he, v', h1, (Mod.of_below m).trans h2, fun g hg => (h3 g hg).imp id (fun h => Nat.le_trans m.size h)⟩
/-- What Any leaves, if q was the one. -/
def TookR (L : List Pcl) (q : Pcl) (m : Nat) (L' : List Pcl) : Prop := (cntR L q.1 q.2.1 = 0 ∧ L' = L) ∨ ∃ p, 0 < cntR L q.1 q.2.1 ∧ Spot L q.1 q.2.1 (wh (m : Int) (cntR L q.1 q.2.1)) p ∧ L' = L.eraseIdx p
def AnyR (w : World) (B c : Nat) (v : Value) (L : List Pcl) (x : Int) (e : Ending) (w' : World) : Prop :=
  (allR L 64 = [] ∧ RDid w B c v L (.tuple #[zeroP, .bool false]) e w') ∨
  ∃ q L', (allR L 64)[wh x (allR L 64).length]? = some q ∧ TookR L q (cntR ((allR L 64).take (wh x (allR L 64).length)) q.1 q.2.1) L' ∧ RDid w B c v L' (.tuple #[pclV q, .bool true]) e w'
set_option maxRecDepth 100000 in
set_option maxHeartbeats 4000000 in
theorem AnyR_any {w : World} {B c : Nat} {v : Value} {L : List Pcl} (h : RN w B c v L) (hB : B ≤ w.heap.size) (hall : ∀ n, n ≤ 64 → (allR L n).length ≤ 12800) {x : Int} (hx : (Lit.int .i64 x).wf = true) :
    Calls Try.prog 15 #[.pointer (some ⟨c, 0, none⟩), .int .i64 x] w (AnyR w B c v L x) := by
  have Hh := Lib.hid h
  obtain ⟨W1, HW1⟩ : ∃ W1, Hid (w.alloc (.cells #[.int .i64 0, .int .i64 0, .string ⟨#[]⟩] 35) = W1) := ⟨_, Lib.hid rfl⟩
  have Hb1 : Hid (Below w.heap.size w W1) := Lib.hid (by rw [← HW1.out]; exact (Below.refl _ _).alloc (Nat.le_refl _) _)
  have HR : Hid (Boxed3 W1 w.heap.size 35 (.int .i64 0) (.int .i64 0) (.string ⟨#[]⟩)) := Lib.hid (by rw [← HW1.out]; exact Boxed3.new w _ _ _ _)
  have Hall1 := Lib.hid (AllR_any (h.below Hb1.out) (fun n hn => by have := hall n hn; omega))
  have hal := hall 64 (Nat.le_refl _)
  obtain ⟨A, HA⟩ : ∃ A, Hid (allR L 64 = A) := ⟨_, Lib.hid rfl⟩
  rw [HA.out] at Hall1 hal
  clear h hall
  go_enter Try.func15, Try.ntmps15
  go_wp2_with fail
  rw [HW1.out]
  refine Hall1.out.mono ?_
  rintro e w2 ⟨v2, rfl, p2, b2⟩
  obtain ⟨a2, cap2, hv2⟩ := p2.slice
  subst hv2
  have Hp2 := Lib.hid p2
  have Hb2 := Lib.hid b2
  have Hb12 : Hid (Below w.heap.size w w2) := Lib.hid (bnext Hb1.out b2)
  have hR2 := HR.out.kept (S := fun _ => False) (Mod.of_below b2) id
  have HR2 := Lib.hid hR2
  clear p2 b2
  obtain ⟨n, Hn⟩ : ∃ n, Hid (A.length = n) := ⟨_, Lib.hid rfl⟩
  rw [Hn.out] at hal ⊢
  by_cases hn0 : n = 0
  · have q0 : ((n : Int) == 0) = true := beq_yes (by omega)
    have c0 := hR2.cell0
    have c1 := hR2.cell1
    have c2 := hR2.cell2
    have f0 := hR2.frozen 0
    have f1 := hR2.frozen 1
    have f2 := hR2.frozen 2
    have HA0 : Hid (allR L 64 = []) := Lib.hid (by rw [HA.out]; exact List.eq_nil_of_length_eq_zero (by rw [Hn.out]; exact hn0))
    have hR3 := HR2.out.set (.int .i64 0) (.int .i64 0) (.string ⟨#[]⟩)
    have HR3 := Lib.hid hR3
    clear hR2 hR3
    go_wp2
    have d0 := HR3.out.cell0
    have d1 := HR3.out.cell1
    have d2 := HR3.out.cell2
    refine bodyPost_ret (v := .tuple #[zeroP, .bool false]) ?_ rfl (.inl ⟨HA0.out, rfl, v, ?_, ?_, fun _ h => .inl h⟩)
    · simp [results, zeroP, Try.f15, go_sem, d0, d1, d2]
    · exact (Hh.out.below Hb12.out).later (S := (· = w.heap.size)) ((((Mod.refl _ _).set1 _).set1 _).set1 _) (fun e => by have := Hh.out.lt; omega) (fun g hg e => by have := (Hh.out.row.own hg).2; omega)
    · exact (((Mod.of_below (S := fun g => g = c ∨ v.ownBlock = some g) Hb12.out).setCell (.inr (Nat.le_refl _)) _).setCell (.inr (Nat.le_refl _)) _).setCell (.inr (Nat.le_refl _)) _
  · have q0 : ((n : Int) == 0) = false := beq_no (by omega)
    have hKn := wh_lt x (show 0 < n by omega)
    have Hwk := Lib.hid (which_any w2 hx (show 0 < n by omega) (by omega))
    obtain ⟨K, HK⟩ : ∃ K, Hid (wh x n = K) := ⟨_, Lib.hid rfl⟩
    rw [HK.out] at hKn Hwk
    have hKn' : (K : Int) < (n : Int) := by omega
    obtain ⟨q, hq⟩ : ∃ q, A[K]? = some q := ⟨_, List.getElem?_eq_getElem (by rw [Hn.out]; exact hKn)⟩
    have Hq := Lib.hid hq
    obtain ⟨g2, c2, e1, hg2, a0, a1, a2'⟩ := Hp2.out.cells (i := K) (by rw [Hn.out]; exact hKn)
    have eq : A[K]'(by rw [Hn.out]; exact hKn) = q := by rw [List.getElem?_eq_getElem (by rw [Hn.out]; exact hKn)] at hq; exact Option.some.inj hq
    rw [show (A[K]'(by rw [Hn.out]; exact hKn)).1 = q.1 by rw [eq]] at a0
    rw [show (A[K]'(by rw [Hn.out]; exact hKn)).2.1 = q.2.1 by rw [eq]] at a1
    rw [show (A[K]'(by rw [Hn.out]; exact hKn)).2.2 = q.2.2 by rw [eq]] at a2'
    injection e1 with e1 _ e1c
    subst e1 e1c
    clear hR2 eq hq
    go_wp2_with fail
    refine Hwk.out.mono ?_
    rintro e w2' ⟨rfl, rfl⟩
    go_upto_region 7 with (fail)
    obtain ⟨w3, Hw3⟩ : ∃ u, Hid (w2.alloc (.cells #[.int .i64 q.1, .int .i64 q.2.1, .string (str q.2.2)] 35) = u) := ⟨_, Lib.hid rfl⟩
    obtain ⟨X, HX⟩ : ∃ X, Hid (w2.heap.size = X) := ⟨_, Lib.hid rfl⟩
    have HXb : Hid (Boxed3 w3 X 35 (.int .i64 q.1) (.int .i64 q.2.1) (.string (str q.2.2))) := Lib.hid (by rw [← Hw3.out, ← HX.out]; exact Boxed3.new w2 _ _ _ _)
    have Hb23 : Hid (Below w2.heap.size w2 w3) := Lib.hid (by rw [← Hw3.out]; exact balloc (Below.refl _ _) _)
    rw [show w2.alloc (.cells #[.int .i64 q.1, .int .i64 q.2.1, .string (str q.2.2)] 35) = w3 from Hw3.out, HX.out]
    have Hb13 : Hid (Below w.heap.size w w3) := Lib.hid (bnext Hb12.out Hb23.out)
    have HR3 : Hid (Boxed3 w3 w.heap.size 35 (.int .i64 0) (.int .i64 0) (.string ⟨#[]⟩)) := Lib.hid (HR2.out.kept (S := fun _ => False) (Mod.of_below Hb23.out) id)
    have Hp3 := Lib.hid (Hp2.out.below Hb23.out)
    have HXR : Hid (w.heap.size < X) := Lib.hid (by have := HR2.out.lt; have := HX.out; omega)
    clear a0 a1 a2'
    go_wp2
    go_loopw [9, 10] (fun av iv wr => ∃ i m : Nat, iv = .int .i64 (i : Int) ∧ i ≤ K ∧ av = .int .i64 (m : Int) ∧ m ≤ i ∧ Hid (cntR (A.take i) q.1 q.2.1 = m) ∧ Hid (Below w3.heap.size w3 wr)) (fun _ iv _ => K - (intOf iv).toNat)
    case atStart => exact ⟨0, 0, rfl, Nat.zero_le _, rfl, Nat.le_refl _, Lib.hid (by simp [cntR]), Lib.hid (Below.refl _ _)⟩
    case round =>
      obtain ⟨i, m, rfl, hi, rfl, hm, HM, HB⟩ := hrel
      by_cases hlt : i < K
      · have hlt' : (i : Int) < (K : Int) := by omega
        have hin : (i : Int) < (n : Int) := by omega
        have hiA : i < A.length := by rw [Hn.out]; omega
        obtain ⟨g3, c3, e1, _, a0, a1, _⟩ := (Hp3.out.below HB.out).cells (i := i) hiA
        injection e1 with e1 _ e1c
        injection e1 with e1
        injection e1 with e1 _
        subst e1 e1c
        have Hs := Lib.hid (take_cnt (L := A) (k := i) hiA q.1 q.2.1)
        obtain ⟨p, hp⟩ : ∃ p, A[i]? = some p := ⟨_, List.getElem?_eq_getElem hiA⟩
        have ep : A[i] = p := by rw [List.getElem?_eq_getElem hiA] at hp; exact Option.some.inj hp
        rw [show (A[i]).1 = p.1 by rw [ep]] at a0
        rw [show (A[i]).2.1 = p.2.1 by rw [ep]] at a1
        rw [show onB q.1 q.2.1 A[i] = onB q.1 q.2.1 p by rw [ep], HM.out] at Hs
        have hX := HXb.out.kept (S := fun _ => False) (Mod.of_below HB.out) id
        have b0 := hX.cell0
        have b1 := hX.cell1
        have hgl := lt_of_cell a0
        have hXl := hX.lt
        have k0 : ∀ y : In (Abv wr), y.u.cell? ⟨g2, i * 3, none⟩ = some (.int .i64 p.1) := fun y => (y.is.cell (p := ⟨g2, i * 3, none⟩) hgl).trans a0
        have k1 : ∀ y : In (Abv wr), y.u.cell? ⟨g2, i * 3 + 1, none⟩ = some (.int .i64 p.2.1) := fun y => (y.is.cell (p := ⟨g2, i * 3 + 1, none⟩) hgl).trans a1
        have k2 : ∀ y : In (Abv wr), y.u.cell? ⟨X, 0, none⟩ = some (.int .i64 q.1) := fun y => (y.is.cell (p := ⟨X, 0, none⟩) hXl).trans b0
        have k3 : ∀ y : In (Abv wr), y.u.cell? ⟨X, 1, none⟩ = some (.int .i64 q.2.1) := fun y => (y.is.cell (p := ⟨X, 1, none⟩) hXl).trans b1
        clear ep hp a0 a1 hX hgl hXl
        cases q1 : (p.1 == q.1) with
        | false =>
          have HM2 : Hid (cntR (A.take (i + 1)) q.1 q.2.1 = m) := Lib.hid (by rw [Hs.out, onB, q1]; simp)
          clear Hs
          go_wp2_with fail
          refine wp_region_mix (by kernel_rfl) (Cls (Abv wr)) [(0, 0), (1, 0), (2, 0), (3, 0), (4, 0), (5, 0), (6, 0), (7, 0), (8, 0), (9, 0), (10, 0), (11, 0), (12, 0), (13, 0), (14, 0), (15, 0), (16, 0), (17, 0)] (by kernel_rfl) (cls (Below.refl _ _).drew) ?_
          repeat (refine mix0 rfl (fun K hK => ?_); go_simp; refine hK _ ?_; clear hK K)
          refine mixEnd ?_
          clear k0 k1 k2 k3 b0 b1
          go_wp2
          go_roundw
          case rel => exact ⟨i + 1, m, by go_num, by omega, by first | rfl | go_num, by omega, HM2, Lib.hid (HB.out.drew)⟩
          case measure => simp [intOf]; omega
        | true =>
          cases q2 : (p.2.1 == q.2.1) with
          | false =>
            have HM2 : Hid (cntR (A.take (i + 1)) q.1 q.2.1 = m) := Lib.hid (by rw [Hs.out, onB, q1, q2]; simp)
            clear Hs
            go_wp2_with fail
            refine wp_region_mix (by kernel_rfl) (Cls (Abv wr)) [(0, 0), (1, 0), (2, 0), (3, 0), (4, 0), (5, 0), (6, 0), (7, 0), (8, 0), (9, 0), (10, 0), (11, 0), (12, 0), (13, 0), (14, 0), (15, 0), (16, 0), (17, 0)] (by kernel_rfl) (cls (Below.refl _ _).drew) ?_
            repeat (refine mix0 rfl (fun K hK => ?_); go_simp; refine hK _ ?_; clear hK K)
            refine mixEnd ?_
            clear k0 k1 k2 k3 b0 b1
            go_wp2
            go_roundw
            case rel => exact ⟨i + 1, m, by go_num, by omega, by first | rfl | go_num, by omega, HM2, Lib.hid (HB.out.drew)⟩
            case measure => simp [intOf]; omega
          | true =>
            have HM2 : Hid (cntR (A.take (i + 1)) q.1 q.2.1 = m + 1) := Lib.hid (by rw [Hs.out, onB, q1, q2]; simp)
            clear Hs
            go_wp2_with fail
            refine wp_region_mix (by kernel_rfl) (Cls (Abv wr)) [(0, 0), (1, 0), (2, 0), (3, 0), (4, 0), (5, 0), (6, 0), (7, 0), (8, 0), (9, 0), (10, 0), (11, 0), (12, 0), (13, 0), (14, 0), (15, 0), (16, 0), (17, 0)] (by kernel_rfl) (cls (Below.refl _ _).drew) ?_
            repeat (refine mix0 rfl (fun K hK => ?_); go_simp; refine hK _ ?_; clear hK K)
            refine mixEnd ?_
            clear k0 k1 k2 k3 b0 b1
            go_wp2
            go_roundw
            case rel => exact ⟨i + 1, m + 1, by go_num, by omega, by first | rfl | go_num, by omega, HM2, Lib.hid (HB.out.drew)⟩
            case measure => simp [intOf]; omega
      · obtain rfl : i = K := by omega
        have hX := HXb.out.kept (S := fun _ => False) (Mod.of_below HB.out) id
        have b0 := hX.cell0
        have b1 := hX.cell1
        have HX4 := Lib.hid hX
        have HR4 := Lib.hid (HR3.out.kept (S := fun _ => False) (Mod.of_below HB.out) id)
        have Hb4 : Hid (Below w.heap.size w wr) := Lib.hid (bnext Hb13.out HB.out)
        have Hrn := Lib.hid (Hh.out.below Hb4.out)
        have hm1 : m ≤ 12800 := by omega
        clear hX
        go_wp2_with fail
        refine (TakeR_any Hrn.out (by have := Hb4.out.size; omega) q.1 q.2.1 (x := (m : Int)) (WalkArith.wf_i64 (by omega))).mono ?_
        intro e w5 hT
        obtain ⟨xv, hx5, L', hTk, he, v5, h5, hM5, hN5⟩ : ∃ xv, True ∧ ∃ L', TookR L q m L' ∧ RDid wr B c v L' xv e w5 := by
          rcases hT with ⟨h0, hd⟩ | ⟨p, q', h0, hsp, _, hd⟩
          · exact ⟨_, trivial, L, .inl ⟨h0, rfl⟩, hd⟩
          · exact ⟨_, trivial, _, .inr ⟨p, h0, hsp, rfl⟩, hd⟩
        subst he
        have hXo : ∀ g, w.heap.size ≤ g → ¬ (g = c ∨ v.ownBlock = some g) := fun g hg h => by
          rcases h with h | h
          · have := Hh.out.lt; omega
          · have := (Hh.out.row.own h).2; omega
        have hX5 := HX4.out.kept hM5 (hXo X (by have := HXR.out; omega))
        have hR5 := HR4.out.kept hM5 (hXo _ (Nat.le_refl _))
        have HTk := Lib.hid hTk
        have H5 := Lib.hid h5
        have HM5 := Lib.hid hM5
        have HN5 := Lib.hid hN5
        have HR5 := Lib.hid hR5
        clear hT hTk h5 hM5 hN5 hx5 hXo b0 b1
        have x0 := hX5.cell0
        have x1 := hX5.cell1
        have x2 := hX5.cell2
        have r0 := hR5.cell0
        have r1 := hR5.cell1
        have r2 := hR5.cell2
        have f0 := hR5.frozen 0
        have f1 := hR5.frozen 1
        have f2 := hR5.frozen 2
        clear hX5 hR5
        have HR6 := Lib.hid (HR5.out.set (.int .i64 q.1) (.int .i64 q.2.1) (.string (str q.2.2)))
        have HAK : Hid ((allR L 64)[wh x (allR L 64).length]? = some q ∧ TookR L q (cntR ((allR L 64).take (wh x (allR L 64).length)) q.1 q.2.1) L') := Lib.hid (by
          rw [HA.out, Hn.out, HK.out]
          exact ⟨Hq.out, by rw [HM.out]; exact HTk.out⟩)
        go_wp2
        have d0 := HR6.out.cell0
        have d1 := HR6.out.cell1
        have d2 := HR6.out.cell2
        refine bodyPost_ret (v := .tuple #[pclV q, .bool true]) ?_ rfl (.inr ⟨q, L', HAK.out.1, HAK.out.2, rfl, v5, ?_, ?_, fun g hg => (HN5.out g hg).imp id (fun h => by have := Hb4.out.size; omega)⟩)
        · simp [results, pclV, Try.f15, go_sem, d0, d1, d2]
        · refine H5.out.later (S := (· = w.heap.size)) ((((Mod.refl _ _).set1 _).set1 _).set1 _) (fun e => by have := Hh.out.lt; omega) (fun g hg e => ?_)
          rcases HN5.out g hg with h | h
          · have := (Hh.out.row.own h).2; omega
          · have := HR4.out.lt; omega
        · exact ((((Mod.of_below (S := fun g => g = c ∨ v.ownBlock = some g) Hb4.out).trans HM5.out).setCell (.inr (Nat.le_refl _)) _).setCell (.inr (Nat.le_refl _)) _).setCell (.inr (Nat.le_refl _)) _
end Go.Proofs.Ytakhhpakajafkaa
