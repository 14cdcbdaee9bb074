/- Short lists; whether two are the same; the document's lists, at this translation. -/
import Derived.Test.YtnoidhfhnaemgaaDoorPp15
import Derived.Laws.StructEq
namespace Go.Proofs.YtnoidhfhnaemgaaDoor
open Go.RowKit

theorem entNeq (a b : Ent) (w : World) : (binOp .neq 44 (.agg #[.string (str a.1), .int .i64 a.2]) (.agg #[.string (str b.1), .int .i64 b.2])).run Tryd.prog w = .ok (.bool (!decide (a = b))) w := by
  have hu : Tryd.prog.underlying 44 = some (.struct (Tryd.prog.fieldsOf 44)) := by kernel_rfl
  have hp : Tryd.prog.stoodInHeld 44 = false := by kernel_rfl
  rw [run_neq_struct, run_equalIn_agg _ _ _ _ _ hu hp]
  obtain ⟨a1, a2⟩ := a
  obtain ⟨b1, b2⟩ := b
  by_cases h1 : a1 = b1
  · subst h1
    by_cases h2 : a2 = b2
    · subst h2
      simp [Program.fieldsOf, Tryd.underlying44, Tryd.underlying3, Tryd.underlying9, go_sem, part]
    · simp [Program.fieldsOf, Tryd.underlying44, Tryd.underlying3, Tryd.underlying9, go_sem, part, h2]
  · simp [Program.fieldsOf, Tryd.underlying44, Tryd.underlying3, Tryd.underlying9, go_sem, part, h1]
set_option maxRecDepth 100000 in
set_option maxHeartbeats 2000000 in
theorem SameE_any (A B : Option Addr) (n c m d : Nat) (x y : List Ent) (w : World) (hx : IsG w 2 encN A n x) (hy : IsG w 2 encN B m y) :
    Calls Tryd.prog 24 #[.slice A n c, .slice B m d] w fun e w' => e = .returned (.bool (decide (x = y))) ∧ Below w.heap.size w w' := by
  obtain ⟨R, HR⟩ : ∃ b, Hid (decide (x = y) = b) := ⟨_, Lib.hid rfl⟩
  rw [HR.out]
  have Hx := Lib.hid hx
  have Hy := Lib.hid hy
  have lx := hx.length
  have ly := hy.length
  have sx := hx.small
  have sy := hy.small
  clear hx hy
  go_enter Tryd.func24, Tryd.ntmps24
  by_cases hnm : n = m
  · subst hnm
    have hb : ((n : Int) != (n : Int)) = false := by simp
    go_wp2_with fail
    go_loopw [5] (fun i wr => ∃ j : Nat, i = .int .i64 (j : Int) ∧ j ≤ n ∧ Hid (x.take j = y.take j) ∧ Hid (Below w.heap.size w wr)) (fun i _ => n - (intOf i).toNat)
    case atStart => exact ⟨0, rfl, Nat.zero_le _, Lib.hid rfl, Lib.hid (Below.refl _ _)⟩
    case round =>
      obtain ⟨j, rfl, hj, HT, HB⟩ := hrel
      by_cases hlt : j < n
      · obtain ⟨a, ha⟩ : ∃ a, x[j]? = some a := ⟨_, List.getElem?_eq_getElem (by omega)⟩
        obtain ⟨b, hb'⟩ : ∃ b, y[j]? = some b := ⟨_, List.getElem?_eq_getElem (by omega)⟩
        obtain ⟨g, off, rfl, hg, a0, a1⟩ := (Hx.out.below HB.out).ent ha
        obtain ⟨g2, off2, rfl, hg2, b0, b1⟩ := (Hy.out.below HB.out).ent hb'
        have Ha := Lib.hid ha
        have Hb := Lib.hid hb'
        have hne := entNeq a b
        have hjn : (j : Int) < (n : Int) := by omega
        clear ha hb'
        by_cases e : a = b
        · have HT2 : Hid (x.take (j + 1) = y.take (j + 1)) := Lib.hid (by rw [take_some Ha.out, take_some Hb.out, HT.out, e])
          rw [decide_eq_true e] at hne
          clear e
          go_wp2
          go_region
          clear hne
          go_wp2
          go_roundw
          case rel => exact ⟨j + 1, by go_num, by omega, HT2, Lib.hid HB.out.drew⟩
          case measure => simp [intOf]; omega
        · have Hr : Hid (R = false) := Lib.hid (by
            rw [← HR.out, decide_eq_false_iff_not]
            intro h
            subst h
            exact e (Option.some.inj (Ha.out.symm.trans Hb.out)))
          rw [decide_eq_false e] at hne
          clear e
          go_wp2
          go_region
          clear hne
          go_wp2
          go_ret
          exact ⟨ret_bool (by rw [Hr.out]), HB.out.drew⟩
      · obtain rfl : j = n := by omega
        have hjn : ¬ (j : Int) < (j : Int) := by omega
        have Hr : Hid (R = true) := Lib.hid (by
          rw [← HR.out, decide_eq_true_eq]
          have h := HT.out
          rwa [List.take_of_length_le (by omega), List.take_of_length_le (by omega)] at h)
        go_wp2
        go_ret
        exact ⟨ret_bool (by rw [Hr.out]), HB.out⟩
  · have hb : ((n : Int) != (m : Int)) = true := by simp; omega
    have Hr : Hid (R = false) := Lib.hid (by
      rw [← HR.out, decide_eq_false_iff_not]
      intro h
      subst h
      exact hnm (lx.symm.trans ly))
    go_wp2
    go_ret
    exact ⟨ret_bool (by rw [Hr.out]), Below.refl _ _⟩
/-! ### short lists -/
def fewE (e : Ent) : Ent := (e.1.take 60, e.2)
def fewN (l : List Ent) : List Ent := (l.take 30).map fewE
theorem fewN_length (l : List Ent) : (fewN l).length ≤ 30 := by simp [fewN]; omega
theorem fewN_len (l : List Ent) : ∀ e ∈ fewN l, e.1.length ≤ 60 := by
  intro e he
  obtain ⟨x, _, rfl⟩ := List.mem_map.1 he
  simp [fewE]; omega
set_option maxRecDepth 100000 in
set_option maxHeartbeats 8000000 in
theorem few15_any (A : Option Addr) (n c : Nat) (l : List Ent) (w : World) (h : IsG w 2 encN A n l) (hwf : ∀ e ∈ l, e.1.length ≤ 9223372036854775807) :
    Calls Tryd.prog 19 #[.slice A n c] w fun e w' => ∃ A' n' c', e = .returned (.slice A' n' c') ∧ RG w' 2 encN (.slice A' n' c') (fewN l) ∧ (∀ g, blk (.slice A' n' c') = some g → w.heap.size ≤ g) ∧ Below w.heap.size w w' := by
  have HG := Lib.hid h
  have Hl := Lib.hid h.length
  have hsm := h.small
  clear h
  go_enter Tryd.func19, Tryd.ntmps19
  go_wp2_with fail
  go_loopw [3, 4] (fun v i wr => ∃ j : Nat, j ≤ n ∧ j ≤ 30 ∧ i = .int .i64 j ∧ Hid (RG wr 2 encN v ((l.take j).map fewE) ∧ (∀ g, blk v = some g → w.heap.size ≤ g) ∧ Below w.heap.size w wr)) (fun _ i _ => 30 - (intOf i).toNat)
  case atStart => exact ⟨0, Nat.zero_le _, Nat.zero_le _, rfl, Lib.hid ⟨RG.nil _ _ _, (fun g e => by cases e), Below.refl _ _⟩⟩
  case round =>
    obtain ⟨j, hj, hj12, rfl, HC⟩ := hrel
    obtain ⟨A2, c2, rfl⟩ := HC.out.1.shape
    obtain ⟨dn, Hdn⟩ : ∃ dn, Hid (((l.take j).map fewE).length = dn) := ⟨_, Lib.hid rfl⟩
    have hdl : dn ≤ 30 := by rw [← Hdn.out]; simp; omega
    rw [Hdn.out] at HC ⊢
    have fin : (j = n ∨ j = 30) → Hid (RG wr 2 encN (.slice A2 dn c2) (fewN l) ∧ (∀ g, blk (.slice A2 dn c2) = some g → w.heap.size ≤ g) ∧ Below w.heap.size w wr) := fun e => Lib.hid (by
      have e2 : (l.take j).map fewE = fewN l := by
        unfold fewN
        rcases e with rfl | rfl
        · rw [List.take_of_length_le (by have := Hl.out; omega), List.take_of_length_le (by have := Hl.out; omega)]
        · rfl
      rw [← e2]
      exact HC.out)
    by_cases hlt : j < n
    · by_cases h12 : j < 30
      · have h12' : (j : Int) < 30 := by omega
        have hjn : (j : Int) < (n : Int) := by omega
        have hj0 : (0 : Int) ≤ (j : Int) := by omega
        obtain ⟨⟨s, x⟩, Hx⟩ : ∃ z, Hid (l[j]? = some z) := ⟨l[j]'(by have := Hl.out; omega), Lib.hid (List.getElem?_eq_getElem _)⟩
        obtain ⟨g, off, rfl, hgl, a0, a1⟩ := HG.out.ent Hx.out
        have c0 := (HC.out.2.2.cell (p := ⟨g, off + j * 2, none⟩) hgl).trans a0
        have c1 := (HC.out.2.2.cell (p := ⟨g, off + j * 2 + 1, none⟩) hgl).trans a1
        have hgv : ¬ blk (.slice A2 dn c2) = some g := fun e => by have := HC.out.2.1 g e; omega
        have hxl := hwf _ (List.mem_of_getElem? Hx.out)
        have Hsn : Hid ((l.take (j + 1)).map fewE = (l.take j).map fewE ++ [(s.take 60, x)]) := Lib.hid (by rw [take_some Hx.out, List.map_append]; rfl)
        have q0 : ∀ y : In (Mod (fun b => blk (.slice A2 dn c2) = some b) wr), y.u.cell? ⟨g, off + j * 2, none⟩ = some (.string (str s)) := fun y => (y.is.cell (p := ⟨g, off + j * 2, none⟩) (lt_of_cell c0) hgv).trans c0
        have q1 : ∀ y : In (Mod (fun b => blk (.slice A2 dn c2) = some b) wr), y.u.cell? ⟨g, off + j * 2 + 1, none⟩ = some (.int .i64 x) := fun y => (y.is.cell (p := ⟨g, off + j * 2 + 1, none⟩) (lt_of_cell c1) hgv).trans c1
        clear fin a0 a1 c0 c1
        obtain ⟨t, Ht⟩ : ∃ t, Hid (s.take 60 = t) := ⟨_, Lib.hid rfl⟩
        rw [Ht.out] at Hsn
        have hne : Nonempty (In (Mod (fun b => blk (.slice A2 dn c2) = some b) wr)) := ⟨⟨wr, Mod.refl _ _⟩⟩
        have M0 : Hid (Mod (fun b => blk (.slice A2 dn c2) = some b) wr wr.drew) := Lib.hid (Mod.of_below (Below.refl _ _).drew)
        go_wp2_with fail
        refine wp_region_mix (by kernel_rfl) (Cls (Mod (fun b => blk (.slice A2 dn c2) = some b) wr)) [(0, 0), (1, 0), (2, 0), (3, 0), (4, 0), (5, 0), (7, 0), (8, 0), (9, 0), (10, 0), (11, 0), (6, 1), (12, 0), (13, 1), (14, 1), (15, 0)] (by kernel_rfl) (cls M0.out) ?_
        repeat (refine mix0 rfl (fun K hK => ?_); go_simp; refine hK _ ?_; clear hK K)
        refine mix1 rfl (fun K hK => ?_)
        go_simp
        refine (short15_any s 60 (by decide) hxl _).mono ?_
        rw [Ht.out]
        rintro e w2 ⟨rfl, rfl⟩
        refine ⟨_, rfl, hK _ _ (cls M0.out) ?_⟩
        clear hK K
        refine mix0 rfl (fun K hK => ?_)
        go_simp
        refine hK _ ?_
        clear hK K
        refine mix1 rfl (fun K hK => ?_)
        go_simp
        obtain ⟨W, HW⟩ : ∃ W, Hid ((wr.alloc (.cells #[.string (str t), .int .i64 x] 44)).drew = W) := ⟨_, Lib.hid rfl⟩
        obtain ⟨p, Hp⟩ : ∃ p, Hid (wr.heap.size = p) := ⟨_, Lib.hid rfl⟩
        have BW : Hid (Below wr.heap.size wr W ∧ IsG W 2 encN (some ⟨p, 0, none⟩) 1 [(t, x)]) := Lib.hid (by
          rw [← HW.out, ← Hp.out]
          exact ⟨(balloc (Below.refl _ _) _).drew, (n_one wr (t, x) _).below (Below.refl _ _).drew⟩)
        rw [HW.out, Hp.out]
        refine hK _ _ (cls (Mod.of_below BW.out.1)) ?_
        clear hK K
        obtain ⟨v2, w2, hr2, r2, a2⟩ := appG nInf encN_ok (HC.out.1.below BW.out.1) (c := 1) BW.out.2 (by rw [Hdn.out]; omega) (by decide) 32
        have HR2 := Lib.hid hr2
        have N2 : Hid (RG w2 2 encN v2 ((l.take (j + 1)).map fewE) ∧ (∀ g, blk v2 = some g → w.heap.size ≤ g) ∧ Below w.heap.size w w2 ∧ Mod (fun b => blk (.slice A2 dn c2) = some b) wr w2) := Lib.hid (by
          rw [Hsn.out]
          have hB := HC.out.2.2.size
          refine ⟨r2, fun q e => ?_, ?_, ?_⟩
          · rcases a2.blk with e2 | ⟨q2, e2, hq2⟩
            · exact HC.out.2.1 q (e2 ▸ e)
            · rw [e2] at e
              obtain rfl := Option.some.inj e
              have := BW.out.1.size
              omega
          · exact a2.mod.below (bnext HC.out.2.2 BW.out.1) (Nat.le_trans hB BW.out.1.size) HC.out.2.1
          · exact (Mod.of_below BW.out.1).trans a2.mod)
        clear hr2 r2 a2
        obtain ⟨A3, n3, c3, rfl⟩ : ∃ A3 n3 c3, v2 = .slice A3 n3 c3 := by
          obtain ⟨A3, c3, e⟩ := N2.out.1.shape
          exact ⟨A3, _, c3, e⟩
        refine mix_append rfl rfl (.tmp 15) (.tmp 28) 32 rfl (by exact HR2.out) (cls N2.out.2.2.2) ?_
        repeat (refine mix0 rfl (fun K hK => ?_); go_simp; refine hK _ ?_; clear hK K)
        refine mixEnd ?_
        clear q0 q1 hne
        go_wp2_with fail
        go_roundw
        case rel => exact ⟨j + 1, by omega, by omega, by go_num, Lib.hid ⟨N2.out.1, N2.out.2.1, N2.out.2.2.1⟩⟩
        case measure => simp [intOf]; omega
      · have h12' : ¬ (j : Int) < 30 := by omega
        have F := fin (.inr (by omega))
        clear fin
        go_wp2
        go_ret
        exact ⟨A2, dn, c2, rfl, F.out⟩
    · have F := fin (.inl (by omega))
      clear fin
      go_wp2
      go_ret
      exact ⟨A2, dn, c2, rfl, F.out⟩
end Go.Proofs.YtnoidhfhnaemgaaDoor
