/- A change put into a row: what it leaves; what package journal's Put gives. -/
import Derived.Test.YtgncmgchoogmpaaDoorJs11
namespace Go.Proofs.YtgncmgchoogmpaaDoor
open Go.RowKit

def eqAt (l : List Ch) (s : Int) : Nat := l.findIdx fun c => c.1 == s
def gtAt (l : List Ch) (s : Int) : Nat := l.findIdx fun c => decide (s < c.1)
def putV (l : List Ch) (c : Ch) : List Ch := if eqAt l c.1 < l.length then l.take (eqAt l c.1) ++ c :: l.drop (eqAt l c.1 + 1) else l.take (gtAt l c.1) ++ c :: l.drop (gtAt l c.1)
theorem gtAt_le (l : List Ch) (s : Int) : gtAt l s ≤ l.length := List.findIdx_le_length
theorem eqAt_is {l : List Ch} {s : Int} {i : Nat} {x : Ch} (hx : l[i]? = some x) (he : x.1 = s) (hn : ∀ j y, j < i → l[j]? = some y → y.1 ≠ s) : eqAt l s = i := by
  obtain ⟨hi, e⟩ := List.getElem?_eq_some_iff.1 hx
  rw [eqAt, List.findIdx_eq hi]
  refine ⟨by rw [e]; simpa using he, fun j hj => ?_⟩
  have := hn j _ hj (List.getElem?_eq_getElem (by omega))
  simpa using this
theorem eqAt_none {l : List Ch} {s : Int} (hn : ∀ j y, j < l.length → l[j]? = some y → y.1 ≠ s) : eqAt l s = l.length := by
  rw [eqAt, List.findIdx_eq_length]
  intro x hx
  obtain ⟨j, hj, rfl⟩ := List.getElem_of_mem hx
  have := hn j _ hj (List.getElem?_eq_getElem hj)
  simpa using this
theorem gtAt_is {l : List Ch} {s : Int} {i : Nat} {x : Ch} (hx : l[i]? = some x) (he : s < x.1) (hn : ∀ j y, j < i → l[j]? = some y → y.1 ≤ s) : gtAt l s = i := by
  obtain ⟨hi, e⟩ := List.getElem?_eq_some_iff.1 hx
  rw [gtAt, List.findIdx_eq hi]
  refine ⟨by rw [e]; simpa using he, fun j hj => ?_⟩
  have := hn j _ hj (List.getElem?_eq_getElem (by omega))
  simpa using this
theorem gtAt_none {l : List Ch} {s : Int} (hn : ∀ j y, j < l.length → l[j]? = some y → y.1 ≤ s) : gtAt l s = l.length := by
  rw [gtAt, List.findIdx_eq_length]
  intro x hx
  obtain ⟨j, hj, rfl⟩ := List.getElem_of_mem hx
  have := hn j _ hj (List.getElem?_eq_getElem hj)
  simpa using this
theorem putV_eq {l : List Ch} {c : Ch} {i : Nat} (h : eqAt l c.1 = i) (hi : i < l.length) : putV l c = l.take i ++ c :: l.drop (i + 1) := by
  rw [putV, h, if_pos hi]
theorem putV_gt {l : List Ch} {c : Ch} {i : Nat} (h : eqAt l c.1 = l.length) (hg : gtAt l c.1 = i) : putV l c = l.take i ++ c :: l.drop i := by
  rw [putV, h, hg, if_neg (by omega)]
theorem putV_length (l : List Ch) (c : Ch) : (putV l c).length ≤ l.length + 1 := by
  unfold putV
  have := gtAt_le l c.1
  split <;> simp <;> omega
/-- How far Put's search is. -/
structure Pg (l : List Ch) (s : Int) (k f : Nat) : Prop where
  ne : ∀ j y, j < k → l[j]? = some y → y.1 ≠ s
  at_ : (f = l.length ∧ ∀ j y, j < k → l[j]? = some y → y.1 ≤ s) ∨ (f < l.length ∧ f < k ∧ gtAt l s = f)
theorem Pg.start (l : List Ch) (s : Int) : Pg l s 0 l.length := ⟨fun j y h => by omega, .inl ⟨rfl, fun j y h => by omega⟩⟩
theorem Pg.le {l : List Ch} {s : Int} {k f : Nat} (h : Pg l s k f) : f ≤ l.length := by rcases h.at_ with h | h <;> omega
theorem Pg.step {l : List Ch} {s : Int} {k f : Nat} (h : Pg l s k f) {x : Ch} (hx : l[k]? = some x) (hne : x.1 ≠ s) : Pg l s (k + 1) (if s < x.1 ∧ f = l.length then k else f) := by
  have hk := (List.getElem?_eq_some_iff.1 hx).1
  refine ⟨fun j y hj hy => ?_, ?_⟩
  · rcases Nat.lt_succ_iff_lt_or_eq.1 hj with hj | rfl
    · exact h.ne j y hj hy
    · rw [hx] at hy; injection hy with hy; exact hy ▸ hne
  · split
    · rename_i hc
      rcases h.at_ with ⟨_, h2⟩ | h2
      · exact .inr ⟨hk, by omega, gtAt_is hx hc.1 h2⟩
      · omega
    · rename_i hc
      rcases h.at_ with ⟨h1, h2⟩ | ⟨h1, h2, h3⟩
      · refine .inl ⟨h1, fun j y hj hy => ?_⟩
        rcases Nat.lt_succ_iff_lt_or_eq.1 hj with hj | rfl
        · exact h2 j y hj hy
        · rw [hx] at hy; injection hy with hy; subst hy
          exact Int.not_lt.1 fun h5 => hc ⟨h5, h1⟩
      · exact .inr ⟨h1, by omega, h3⟩
theorem Pg.fin {l : List Ch} {c : Ch} {f : Nat} (h : Pg l c.1 l.length f) : putV l c = l.take f ++ c :: l.drop f := by
  have e := eqAt_none h.ne
  rcases h.at_ with ⟨rfl, h2⟩ | ⟨h1, h2, h3⟩
  · exact putV_gt e (gtAt_none h2)
  · exact putV_gt e h3
theorem Pg.found {l : List Ch} {c x : Ch} {k f : Nat} (h : Pg l c.1 k f) (hx : l[k]? = some x) (he : x.1 = c.1) : putV l c = l.take k ++ c :: l.drop (k + 1) :=
  putV_eq (eqAt_is hx he h.ne) (List.getElem?_eq_some_iff.1 hx).1
theorem ch_one (w : World) (c : Ch) (t : TypeId) : IsG (w.alloc (.cells #[.int .i64 c.1, .string (str c.2)] t)) 2 encC (some ⟨w.heap.size, 0, none⟩) 1 [c] :=
  IsG.one (by simp) (fun j u hj => by
    match j, hj with
    | 0, hj | 1, hj => simp [encC] at hj; subst hj; simp [go_sem]
    | j + 2, hj => simp [encC] at hj)
set_option maxRecDepth 100000 in
set_option maxHeartbeats 4000000 in
theorem jPut_any (v : Value) (l : List Ch) (c : Ch) (w : World) (h : RG w 2 encC v l) (hn : l.length ≤ 1000) :
    Calls Tryd.prog 20 #[v, chV c] w fun e w' => ∃ v', e = .returned v' ∧ RG w' 2 encC v' (putV l c) ∧ (∀ g, blk v' = some g → w.heap.size ≤ g) ∧ Below w.heap.size w w' := by
  obtain ⟨A, cp, rfl⟩ := h.shape
  obtain ⟨n, Hn⟩ : ∃ x, Hid (l.length = x) := ⟨_, Lib.hid rfl⟩
  rw [Hn.out] at h hn ⊢
  obtain ⟨G0, hcp, _⟩ := h.is encC_ok
  have G := Lib.hid G0
  have R := Lib.hid h
  obtain ⟨w0, HW0⟩ : ∃ x, Hid (w.alloc (.cells #[.int .i64 c.1, .string (str c.2)] 32) = x) := ⟨_, Lib.hid rfl⟩
  have B0 : Hid (Below w.heap.size w w0) := Lib.hid (by rw [← HW0.out]; exact balloc (Below.refl _ _) _)
  obtain ⟨p, Hp⟩ : ∃ x, Hid (w.heap.size = x) := ⟨_, Lib.hid rfl⟩
  have K0 : Hid (ChAt w0 p c) := Lib.hid (by rw [← HW0.out, ← Hp.out]; exact ChAt.new w c _)
  clear G0 h
  have hnil : (A = none ∧ n = 0 ∧ cp = 0) ∨ ∃ g off, A = some ⟨g, off, none⟩ := by
    rcases R.out.row.is with ⟨e, _⟩ | ⟨g, off, cap, e, _⟩
    · injection e with e1 e2 e3
      exact .inl ⟨e1, e2, e3⟩
    · injection e with e1 e2 e3
      exact .inr ⟨g, off, e1⟩
  rcases hnil with ⟨rfl, rfl, rfl⟩ | ⟨g, off, rfl⟩
  · obtain rfl : l = [] := List.eq_nil_of_length_eq_zero Hn.out
    have HF : Hid (putV [] c = [c]) := Lib.hid rfl
    go_enter Tryd.func20, Tryd.ntmps20
    go_wp2_with fail
    go_step3
    go_wp2_with fail
    rw [HW0.out, Hp.out]
    go_step3
    go_wp2_with fail
    go_rounds 1
    go_wp2_with fail
    have q0 : ∀ y : In (Abv w0), y.u.cell? ⟨p, 0, none⟩ = some (.int .i64 c.1) := fun y => (K0.out.below y.is).c0
    have q1 : ∀ y : In (Abv w0), y.u.cell? ⟨p, 1, none⟩ = some (.string (str c.2)) := fun y => (K0.out.below y.is).c1
    refine wp_region_mix (by kernel_rfl) (Cls (Abv w0)) [(0, 0), (1, 0), (2, 0), (3, 0), (4, 0), (7, 0), (8, 0), (9, 0), (5, 1), (6, 1), (10, 1), (11, 0)] (by kernel_rfl) (cls (Below.refl _ w0).drew) ?_
    repeat (refine mix0 rfl (fun K hK => ?_); go_simp; refine hK _ ?_; clear hK K)
    clear q0 q1
    refine mix1 rfl (fun K hK => ?_); go_simp
    obtain ⟨w4, HW4⟩ : ∃ x, Hid ((w0.alloc (.cells #[.int .i64 c.1, .string (str c.2)] 32)).drew = x) := ⟨_, Lib.hid rfl⟩
    obtain ⟨p4, Hp4⟩ : ∃ x, Hid (w0.heap.size = x) := ⟨_, Lib.hid rfl⟩
    have B4 : Hid (Below w0.heap.size w0 w4) := Lib.hid (by rw [← HW4.out]; exact (balloc (Below.refl _ _) _).drew)
    have C4 : Hid (IsG w4 2 encC (some ⟨p4, 0, none⟩) 1 [c]) := Lib.hid (by rw [← HW4.out, ← Hp4.out]; exact (ch_one w0 c _).below (Below.refl _ _).drew)
    rw [HW4.out, Hp4.out]
    refine hK _ _ (cls B4.out) ?_
    clear hK K
    obtain ⟨v5, w5, hr5, r5, a5⟩ := appG chInf encC_ok (RG.nil w4 2 encC) (c := 1) C4.out (by simp) (by decide) 30
    have Hr5 := Lib.hid hr5
    have R5 := Lib.hid r5
    have B5 : Hid (Below w0.heap.size w0 w5) := Lib.hid (Mod.below B4.out a5.mod B4.out.size (fun g' hg' => by cases hg'))
    have N5 : Hid (∀ g', blk v5 = some g' → w0.heap.size ≤ g') := Lib.hid (fun g' hg' => by
      rcases a5.blk with e | ⟨g'', e, h'⟩
      · rw [e] at hg'; cases hg'
      · rw [e] at hg'; injection hg' with hg'; have := B4.out.size; omega)
    clear hr5 r5 a5
    refine mix_append rfl rfl (.tmp 47) (.tmp 49) 30 rfl (by exact Hr5.out) (cls B5.out) ?_
    go_simp
    obtain ⟨v6, w6, hr6, r6, a6⟩ := appG chInf encC_ok R5.out (c := 0) (isG_nil w5 2 encC) (by simp) (by decide) 30
    have Hr6 := Lib.hid hr6
    have R6 := Lib.hid r6
    have B6 : Hid (Below w0.heap.size w0 w6) := Lib.hid (Mod.below B5.out a6.mod B5.out.size N5.out)
    have N6 : Hid (∀ g', blk v6 = some g' → w0.heap.size ≤ g') := Lib.hid (fun g' hg' => by
      rcases a6.blk with e | ⟨g'', e, h'⟩
      · rw [e] at hg'; exact N5.out g' hg'
      · rw [e] at hg'; injection hg' with hg'; have := B5.out.size; omega)
    clear hr6 r6 a6
    refine mix_append rfl rfl (.tmp 50) (.tmp 53) 30 rfl (by exact Hr6.out) (cls B6.out) ?_
    repeat (refine mix0 rfl (fun K hK => ?_); go_simp; refine hK _ ?_; clear hK K)
    refine mixEnd ?_
    go_wp2
    rw [Exit.noGoto_ret]
    go_ret
    exact ⟨v6, rfl, by rw [HF.out]; exact R6.out, fun g' hg' => by have := N6.out g' hg'; have := B0.out.size; omega, bnext B0.out B6.out⟩
  · go_enter Tryd.func20, Tryd.ntmps20
    go_wp2_with fail
    go_step3
    go_wp2_with fail
    rw [HW0.out, Hp.out]
    go_step3
    go_wp2_with fail
    go_loopw [5, 6, 15] (fun a b i wr => ∃ k f : Nat, k ≤ n ∧ i = .int .i64 k ∧ a = .int .i64 f ∧ b = .int .i64 f ∧ Hid (Pg l c.1 k f) ∧ Hid (Below w0.heap.size w0 wr)) (fun _ _ i _ => n - (intOf i).toNat)
    case atStart => exact ⟨0, n, Nat.zero_le _, rfl, rfl, rfl, Lib.hid (by rw [← Hn.out]; exact Pg.start l c.1), Lib.hid (Below.refl _ _)⟩
    case round =>
      obtain ⟨k, f, hk, rfl, rfl, rfl, HP, HB⟩ := hrel
      by_cases hlt : k < n
      · obtain ⟨x, hx⟩ : ∃ x, l[k]? = some x := ⟨_, List.getElem?_eq_getElem (by have := Hn.out; omega)⟩
        have Hx := Lib.hid hx
        obtain ⟨g', off', e, hg, hc⟩ := (G.out.below (bnext B0.out HB.out)).cells (by omega)
        have e1 : g = g' := congrArg Addr.block (Option.some.inj e)
        have e2 : off = off' := congrArg Addr.off (Option.some.inj e)
        subst e1 e2
        have c0 := hc k x 0 (.int .i64 x.1) hx rfl
        rw [Nat.add_zero] at c0
        have c1 := hc k x 1 (.string (str x.2)) hx rfl
        have K1 := K0.out.below HB.out
        have d0 := K1.c0
        have hpl := K1.lt
        have hpne : p ≠ wr.heap.size := by omega
        clear hc hx e hg K1
        obtain ⟨w1, HW1⟩ : ∃ y, Hid (wr.alloc (.cells #[.int .i64 x.1, .string (str x.2)] 32) = y) := ⟨_, Lib.hid rfl⟩
        have B1 : Hid (Below w0.heap.size w0 w1) := Lib.hid (by rw [← HW1.out]; exact balloc HB.out _)
        by_cases heq : x.1 = c.1
        · have hb : (x.1 == c.1) = true := by simpa using heq
          have HF : Hid (putV l c = l.take k ++ c :: l.drop (k + 1)) := Lib.hid (HP.out.found Hx.out heq)
          clear HP Hx heq
          have BQ := B1
          go_wp2_with fail
          rw [HW1.out]
          obtain ⟨t, Ht⟩ : ∃ t, Hid (k + 1 = t) := ⟨_, Lib.hid rfl⟩
          rw [show (k : Int) + 1 = (t : Int) by have := Ht.out; omega]
          rw [Ht.out] at HF
          have htn : t ≤ n := by have := Ht.out; omega
          have Gq := Lib.hid (G.out.below (bnext B0.out BQ.out))
          have Kq := Lib.hid (K0.out.below BQ.out)
          have q0 : ∀ y : In (Abv w1), y.u.cell? ⟨p, 0, none⟩ = some (.int .i64 c.1) := fun y => (Kq.out.below y.is).c0
          have q1 : ∀ y : In (Abv w1), y.u.cell? ⟨p, 1, none⟩ = some (.string (str c.2)) := fun y => (Kq.out.below y.is).c1
          have hf1 : k ≤ n := by omega
          have hf2 : t ≤ n := by omega
          have hf3 : k ≤ cp := by omega
          have hf4 : t ≤ cp := by omega
          have hf5 : (k : Int) ≤ (cp : Int) := by omega
          have hf6 : ((t : Int) : Int) ≤ (n : Int) := by omega
          have hft : ((t : Int) : Int).toNat = t := by omega
          have hfw : IntKind.i64.wrap ((t : Int)) = (t : Int) := IntWalk.i64_in _ (by omega)
          refine wp_region_mix (by kernel_rfl) (Cls (Abv w1)) [(0, 0), (1, 0), (2, 0), (3, 0), (4, 0), (7, 0), (8, 0), (9, 0), (5, 1), (6, 1), (10, 1), (11, 0)] (by kernel_rfl) (cls (Below.refl _ w1).drew) ?_
          repeat (refine mix0 rfl (fun K hK => ?_); go_simp; refine hK _ ?_; clear hK K)
          clear q0 q1
          refine mix1 rfl (fun K hK => ?_); go_simp
          obtain ⟨w4, HW4⟩ : ∃ x, Hid ((w1.alloc (.cells #[.int .i64 c.1, .string (str c.2)] 32)).drew = x) := ⟨_, Lib.hid rfl⟩
          obtain ⟨p4, Hp4⟩ : ∃ x, Hid (w1.heap.size = x) := ⟨_, Lib.hid rfl⟩
          have B4 : Hid (Below w1.heap.size w1 w4) := Lib.hid (by rw [← HW4.out]; exact (balloc (Below.refl _ _) _).drew)
          have C4 : Hid (IsG w4 2 encC (some ⟨p4, 0, none⟩) 1 [c]) := Lib.hid (by rw [← HW4.out, ← Hp4.out]; exact (ch_one w1 c _).below (Below.refl _ _).drew)
          rw [HW4.out, Hp4.out]
          refine hK _ _ (cls B4.out) ?_
          clear hK K
          have G4 := Lib.hid (Gq.out.below B4.out)
          obtain ⟨c5, w5, hr5, r5, b5, s5⟩ := appNew chInf encC_ok (G4.out.take hf1) (c := 1) C4.out (by omega) (by omega) (Nat.le_trans (show k + 1 ≤ 2000 by omega) (by decide)) 30
          obtain ⟨p5, Hp5⟩ : ∃ x, Hid (w4.heap.size = x) := ⟨_, Lib.hid rfl⟩
          rw [Hp5.out] at hr5 r5
          have Hr5 := Lib.hid hr5
          have R5 := Lib.hid r5
          have B5 : Hid (Below w1.heap.size w1 w5) := Lib.hid (bnext B4.out b5)
          have G5 := Lib.hid (G4.out.below b5)
          have hw5 : Hid (w.heap.size ≤ p5) := Lib.hid (by have := Hp5.out; have := B4.out.size; have := BQ.out.size; have := B0.out.size; omega)
          have hw6 : Hid (w1.heap.size ≤ p5) := Lib.hid (by have := Hp5.out; have := B4.out.size; omega)
          clear hr5 r5 b5 s5
          refine mix_append rfl rfl (.tmp 47) (.tmp 49) 30 rfl (by exact Hr5.out) (cls B5.out) ?_
          go_simp
          obtain ⟨A5, HA5⟩ : ∃ x, Hid ((if cp = t then some (⟨g, off, none⟩ : Addr) else some ⟨g, off + (t) * 2, none⟩) = x) := ⟨_, Lib.hid rfl⟩
          have D5 : Hid (IsG w5 2 encC A5 (n - (t)) (l.drop (t))) := Lib.hid (G5.out.drop hf2 _ (fun h => by rw [← HA5.out]; exact if_neg (by omega)))
          rw [HA5.out]
          have hl5 : (l.take k ++ [c]).length + (n - (t)) ≤ 100000 := by rw [List.length_append, List.length_take]; simp; omega
          obtain ⟨v6, w6, hr6, r6, a6⟩ := appG chInf encC_ok R5.out (c := cp - (t)) D5.out hl5 (by decide) 30
          have Hr6 := Lib.hid hr6
          have R6 : Hid (RG w6 2 encC v6 (putV l c)) := Lib.hid (by rw [HF.out]; rw [List.append_assoc] at r6; exact r6)
          have B6 : Hid (Below w.heap.size w w6) := Lib.hid (Mod.below (bnext (bnext B0.out BQ.out) B5.out) a6.mod (bnext (bnext B0.out BQ.out) B5.out).size (fun g' hg' => by simp only [blk, Option.some.injEq] at hg'; have := hw5.out; omega))
          have N6 : Hid (∀ g', blk v6 = some g' → w.heap.size ≤ g') := Lib.hid (fun g' hg' => by
            rcases a6.blk with e | ⟨g'', e, h'⟩
            · rw [e] at hg'; simp only [blk, Option.some.injEq] at hg'; have := hw5.out; omega
            · rw [e] at hg'; injection hg' with hg'; have := (bnext (bnext B0.out BQ.out) B5.out).size; omega)
          have M6 : Hid (Below w1.heap.size w1 w6) := Lib.hid (Mod.below B5.out a6.mod B5.out.size (fun g' hg' => by simp only [blk, Option.some.injEq] at hg'; have := hw6.out; omega))
          clear hr6 r6 a6
          refine mix_append rfl rfl (.tmp 50) (.tmp 53) 30 rfl (by exact Hr6.out) (cls M6.out) ?_
          repeat (refine mix0 rfl (fun K hK => ?_); go_simp; refine hK _ ?_; clear hK K)
          refine mixEnd ?_
          go_wp2
          rw [Exit.noGoto_ret]
          go_ret
          exact ⟨v6, rfl, R6.out, N6.out, B6.out⟩
        · have hb : (x.1 == c.1) = false := by simpa using heq
          have HS := Lib.hid (HP.out.step Hx.out heq)
          rw [Hn.out] at HS
          by_cases hgt : c.1 < x.1
          · by_cases hf : f = n
            · have hfb : ((f : Int) == (n : Int)) = true := by simp [hf]
              rw [if_pos ⟨hgt, hf⟩] at HS
              have hwr : IntKind.i64.wrap ((k : Int) + 1) = (k : Int) + 1 := IntWalk.i64_in _ (by omega)
              go_wp2_with fail
              go_roundw
              case rel => exact ⟨k + 1, k, by omega, by go_num, rfl, rfl, HS, Lib.hid (by rw [HW1.out]; exact B1.out)⟩
              case measure => simp [intOf]; omega
            · have hfb : ((f : Int) == (n : Int)) = false := by simp; omega
              rw [if_neg (fun h => hf h.2)] at HS
              go_wp2_with fail
              go_roundw
              case rel => exact ⟨k + 1, f, by omega, by go_num, rfl, rfl, HS, Lib.hid (by rw [HW1.out]; exact B1.out)⟩
              case measure => simp [intOf]; omega
          · rw [if_neg (fun h => hgt h.1)] at HS
            go_wp2_with fail
            go_roundw
            case rel => exact ⟨k + 1, f, by omega, by go_num, rfl, rfl, HS, Lib.hid (by rw [HW1.out]; exact B1.out)⟩
            case measure => simp [intOf]; omega
      · obtain rfl : k = n := by omega
        rw [← Hn.out] at HP
        have HF : Hid (putV l c = l.take f ++ c :: l.drop f) := Lib.hid HP.out.fin
        have HPle : f ≤ k := by have := HP.out.le; have := Hn.out; omega
        clear HP
        have BQ := HB
        have hfk : f ≤ k := HPle
        go_wp2_with fail
        have Gq := Lib.hid (G.out.below (bnext B0.out BQ.out))
        have Kq := Lib.hid (K0.out.below BQ.out)
        have q0 : ∀ y : In (Abv wr), y.u.cell? ⟨p, 0, none⟩ = some (.int .i64 c.1) := fun y => (Kq.out.below y.is).c0
        have q1 : ∀ y : In (Abv wr), y.u.cell? ⟨p, 1, none⟩ = some (.string (str c.2)) := fun y => (Kq.out.below y.is).c1
        have hf1 : f ≤ k := by omega
        have hf2 : f ≤ k := by omega
        have hf3 : f ≤ cp := by omega
        have hf4 : f ≤ cp := by omega
        have hf5 : (f : Int) ≤ (cp : Int) := by omega
        have hf6 : ((f : Int) : Int) ≤ (k : Int) := by omega
        have hft : ((f : Int) : Int).toNat = f := by omega
        have hfw : IntKind.i64.wrap ((f : Int)) = (f : Int) := IntWalk.i64_in _ (by omega)
        refine wp_region_mix (by kernel_rfl) (Cls (Abv wr)) [(0, 0), (1, 0), (2, 0), (3, 0), (4, 0), (7, 0), (8, 0), (9, 0), (5, 1), (6, 1), (10, 1), (11, 0)] (by kernel_rfl) (cls (Below.refl _ wr).drew) ?_
        repeat (refine mix0 rfl (fun K hK => ?_); go_simp; refine hK _ ?_; clear hK K)
        clear q0 q1
        refine mix1 rfl (fun K hK => ?_); go_simp
        obtain ⟨w4, HW4⟩ : ∃ x, Hid ((wr.alloc (.cells #[.int .i64 c.1, .string (str c.2)] 32)).drew = x) := ⟨_, Lib.hid rfl⟩
        obtain ⟨p4, Hp4⟩ : ∃ x, Hid (wr.heap.size = x) := ⟨_, Lib.hid rfl⟩
        have B4 : Hid (Below wr.heap.size wr w4) := Lib.hid (by rw [← HW4.out]; exact (balloc (Below.refl _ _) _).drew)
        have C4 : Hid (IsG w4 2 encC (some ⟨p4, 0, none⟩) 1 [c]) := Lib.hid (by rw [← HW4.out, ← Hp4.out]; exact (ch_one wr c _).below (Below.refl _ _).drew)
        rw [HW4.out, Hp4.out]
        refine hK _ _ (cls B4.out) ?_
        clear hK K
        have G4 := Lib.hid (Gq.out.below B4.out)
        obtain ⟨c5, w5, hr5, r5, b5, s5⟩ := appNew chInf encC_ok (G4.out.take hf1) (c := 1) C4.out (by omega) (by omega) (Nat.le_trans (show f + 1 ≤ 2000 by omega) (by decide)) 30
        obtain ⟨p5, Hp5⟩ : ∃ x, Hid (w4.heap.size = x) := ⟨_, Lib.hid rfl⟩
        rw [Hp5.out] at hr5 r5
        have Hr5 := Lib.hid hr5
        have R5 := Lib.hid r5
        have B5 : Hid (Below wr.heap.size wr w5) := Lib.hid (bnext B4.out b5)
        have G5 := Lib.hid (G4.out.below b5)
        have hw5 : Hid (w.heap.size ≤ p5) := Lib.hid (by have := Hp5.out; have := B4.out.size; have := BQ.out.size; have := B0.out.size; omega)
        have hw6 : Hid (wr.heap.size ≤ p5) := Lib.hid (by have := Hp5.out; have := B4.out.size; omega)
        clear hr5 r5 b5 s5
        refine mix_append rfl rfl (.tmp 47) (.tmp 49) 30 rfl (by exact Hr5.out) (cls B5.out) ?_
        go_simp
        obtain ⟨A5, HA5⟩ : ∃ x, Hid ((if cp = f then some (⟨g, off, none⟩ : Addr) else some ⟨g, off + (f) * 2, none⟩) = x) := ⟨_, Lib.hid rfl⟩
        have D5 : Hid (IsG w5 2 encC A5 (k - (f)) (l.drop (f))) := Lib.hid (G5.out.drop hf2 _ (fun h => by rw [← HA5.out]; exact if_neg (by omega)))
        rw [HA5.out]
        have hl5 : (l.take f ++ [c]).length + (k - (f)) ≤ 100000 := by rw [List.length_append, List.length_take]; simp; omega
        obtain ⟨v6, w6, hr6, r6, a6⟩ := appG chInf encC_ok R5.out (c := cp - (f)) D5.out hl5 (by decide) 30
        have Hr6 := Lib.hid hr6
        have R6 : Hid (RG w6 2 encC v6 (putV l c)) := Lib.hid (by rw [HF.out]; rw [List.append_assoc] at r6; exact r6)
        have B6 : Hid (Below w.heap.size w w6) := Lib.hid (Mod.below (bnext (bnext B0.out BQ.out) B5.out) a6.mod (bnext (bnext B0.out BQ.out) B5.out).size (fun g' hg' => by simp only [blk, Option.some.injEq] at hg'; have := hw5.out; omega))
        have N6 : Hid (∀ g', blk v6 = some g' → w.heap.size ≤ g') := Lib.hid (fun g' hg' => by
          rcases a6.blk with e | ⟨g'', e, h'⟩
          · rw [e] at hg'; simp only [blk, Option.some.injEq] at hg'; have := hw5.out; omega
          · rw [e] at hg'; injection hg' with hg'; have := (bnext (bnext B0.out BQ.out) B5.out).size; omega)
        have M6 : Hid (Below wr.heap.size wr w6) := Lib.hid (Mod.below B5.out a6.mod B5.out.size (fun g' hg' => by simp only [blk, Option.some.injEq] at hg'; have := hw6.out; omega))
        clear hr6 r6 a6
        refine mix_append rfl rfl (.tmp 50) (.tmp 53) 30 rfl (by exact Hr6.out) (cls M6.out) ?_
        repeat (refine mix0 rfl (fun K hK => ?_); go_simp; refine hK _ ?_; clear hK K)
        refine mixEnd ?_
        go_wp2
        rw [Exit.noGoto_ret]
        go_ret
        exact ⟨v6, rfl, R6.out, N6.out, B6.out⟩
end Go.Proofs.YtgncmgchoogmpaaDoor
