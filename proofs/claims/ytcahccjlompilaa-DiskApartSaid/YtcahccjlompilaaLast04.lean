/- The last write of a key's cache for a sector. -/
import Derived.Test.YtcahccjlompilaaBack04
import Derived.RangeFuncBox
namespace Go.Proofs.Ytcahccjlompilaa
open Go.RowKit Go.Shelf

attribute [local go_sem] Oper.semAt_some

def Hit (i : Nat) (pre : List Back) : Prop := ∃ q m p, pre = q ++ [(m, p)] ∧ p.1 = i ∧ ∀ x ∈ q, x.2.1 ≠ i
def lastP (pre : List Back) : List UInt8 := (pre.getLast?.map (·.2.2)).getD []
theorem lastP_snoc (q : List Back) (x : Back) : lastP (q ++ [x]) = x.2.2 := by simp [lastP]
theorem backs_take (c : List (Nat × List UInt8)) (kk : Nat) (h : kk ≤ c.length) : (backs c kk).map (·.2) = c.reverse.take kk := by
  apply List.ext_getElem
  · simp [backs, h]
  · intro j h1 h2
    simp [backs] at h1
    have hj : c.length - 1 - j < c.length := by omega
    simp only [backs, List.map_map, List.getElem_map, List.getElem_range, Function.comp_def, backAt, List.getElem_take, List.getElem_reverse]
    rw [List.getD_eq_getElem?_getD, List.getElem?_eq_getElem hj]
    rfl
theorem hit_last {c : List (Nat × List UInt8)} {i kk : Nat} (h : kk ≤ c.length) (hh : Hit i (backs c kk)) : ∃ p, lastO c i = some p ∧ lastP (backs c kk) = p.2 := by
  obtain ⟨q, m, p, hq, hp, hno⟩ := hh
  refine ⟨p, ?_, by rw [hq, lastP_snoc]⟩
  have e := backs_take c kk h
  rw [hq, List.map_append] at e
  have e2 : c.reverse = (q.map (·.2) ++ [p]) ++ c.reverse.drop kk := by
    have := List.take_append_drop kk c.reverse
    rw [← e] at this
    exact this.symm
  rw [lastO, e2, List.find?_append, List.find?_append]
  have e3 : (q.map (·.2)).find? (fun p => p.1 == i) = none := by
    rw [List.find?_eq_none]
    intro x hx
    obtain ⟨y, hy, rfl⟩ := List.mem_map.1 hx
    simpa using hno y hy
  rw [e3]
  simp [hp]
/-- A block of two cells. -/
def Boxed2 (W : World) (B : Nat) (t : TypeId) (u v : Value) : Prop := W.heap[B]? = some (.cells #[u, v] t (0, 0))
theorem Boxed2.new (W : World) (t : TypeId) (u v : Value) : Boxed2 (W.alloc (.cells #[u, v] t)) W.heap.size t u v := World.alloc_heap_new W _
theorem Boxed2.cell0 {W : World} {B : Nat} {t : TypeId} {u v : Value} (h : Boxed2 W B t u v) : W.cell? ⟨B, 0, none⟩ = some u := by simp [World.cell?, show W.heap[B]? = _ from h]
theorem Boxed2.cell1 {W : World} {B : Nat} {t : TypeId} {u v : Value} (h : Boxed2 W B t u v) : W.cell? ⟨B, 1, none⟩ = some v := by simp [World.cell?, show W.heap[B]? = _ from h]
theorem boxed2_own {W W' : World} {row : Option Nat} {B : Nat} {t : TypeId} {u v : Value} (h : Boxed2 W B t u v) (hg : W.grownBy W' row) (hr : ∀ r, row = some r → ∃ o : Obj, W.heap[r]? = some o ∧ o.isCells = false) : Boxed2 W' B t u v := by
  refine (hg.block B (Array.getElem?_eq_some_iff.1 h).1 (fun e => ?_)).trans h
  obtain ⟨o, ho, hc⟩ := hr B e.symm
  rw [show W.heap[B]? = _ from h] at ho; cases ho; cases hc
section
variable {w : World} {b n0 : Nat} {ρ : Nat → Role} {s : DS} {lb kb cb : Nat} {pv : Value} {cf : Int → Option Value}
set_option maxRecDepth 100000 in
set_option maxHeartbeats 2000000 in
theorem last_in (h : Dk w b ρ n0 s lb kb cb pv cf) {k : Int} (hk : (Lit.int .i64 k).wf = true) (i : Nat) :
    CallsIn Fence.wide 8 Try.prog 52 #[.pointer (some ⟨b, 0, none⟩), .int .i64 k, .int .i64 (i : Int)] w fun e w' =>
      e = .returned (.tuple #[.string (str (lastS (s.caches k) i)), .bool (lastB (s.caches k) i)]) ∧ Below w.heap.size w w' := by
  have c2 := h.c2
  obtain ⟨a, cap, hlk, hrow, hcf⟩ := h.lookC hk
  have Hrow := Lib.hid hrow
  have Hcn := Lib.hid (h.fine.cache k)
  have Hsm := Lib.hid h.fine.small
  have hbl := lt_of_cell h.c0
  obtain ⟨c, Hc⟩ : ∃ c, Hid (s.caches k = c) := ⟨_, Lib.hid rfl⟩
  rw [Hc.out] at hlk Hrow Hcn ⊢
  obtain ⟨K, HK⟩ : ∃ K, Hid (w.heap.size = K) := ⟨_, Lib.hid rfl⟩
  have Hh := Lib.hid h
  obtain ⟨W1, HW1⟩ : ∃ W1, Hid (((w.alloc (.cells #[.int .i64 (i : Int)] 3)).alloc (.cells #[.string ⟨#[]⟩] 9)).alloc (.cells #[.bool false] 4) = W1) := ⟨_, Lib.hid rfl⟩
  have Hb1 : Hid (Below w.heap.size w W1) := Lib.hid (by rw [← HW1.out]; exact balloc (balloc ((Below.refl _ _).alloc (Nat.le_refl _) _) _) _)
  have Hs1 : Hid (W1.heap.size = K + 3) := Lib.hid (by rw [← HW1.out, ← HK.out]; simp)
  have bK : Boxed W1 K 3 (.int .i64 (i : Int)) := by
    rw [← HW1.out, ← HK.out]; exact ((Boxed.new w _ _).alloc _).alloc _
  have bS : Boxed W1 (K + 1) 9 (.string ⟨#[]⟩) := by
    have := (Boxed.new (w.alloc (.cells #[.int .i64 (i : Int)] 3)) 9 (.string ⟨#[]⟩)).alloc (.cells #[.bool false] 4)
    rw [World.size_alloc, HK.out, HW1.out] at this; exact this
  have bB : Boxed W1 (K + 1 + 1) 4 (.bool false) := by
    have := Boxed.new ((w.alloc (.cells #[.int .i64 (i : Int)] 3)).alloc (.cells #[.string ⟨#[]⟩] 9)) 4 (.bool false)
    rw [World.size_alloc, World.size_alloc, HK.out, HW1.out] at this; exact this
  have D1 := Lib.hid (Hh.out.later (Mod.of_below (S := fun _ => False) Hb1.out) (fun _ => False.elim))
  have c21 := D1.out.c2
  have hlk1 : (Instr.lookup 65 (.map (some cb)) (.int .i64 k) false).run Try.prog W1 = .ok (.slice a c.length cap) W1 := by
    rw [D1.out.lookV hk]
    have h1 := Hh.out.lookV hk
    rw [hlk] at h1
    injection h1 with h1
    rw [h1]
  have Hrow1 := Lib.hid (Hrow.out.later (Mod.of_below (S := fun _ => False) Hb1.out) (fun _ _ => id))
  have HbK := Lib.hid bK
  have HbS := Lib.hid bS
  have HbB := Lib.hid bB
  clear hrow hcf bK bS bB hlk c2
  refine callsIn_of_wp_marks Try.func52 rfl trivial ?_ rfl
  simp only [Try.ntmps52, List.size_toArray, List.length_cons, List.length_nil, Nat.reduceAdd, Nat.reduceSub, Array.replicate_succ, Array.replicate_zero, List.push_toArray, List.append_toArray, List.nil_append, List.cons_append]
  gi_wp2
  rw [HW1.out, HK.out]
  refine (wpIn_wide (n := 8)).2 (wp_scope_straight ((wpIn_wide (n := 8)).1 ?_))
  gi_wp2
  refine wpIn_label ?_
  gi_wp2
  refine ⟨trivial, ?_⟩
  refine (Backward_in Fence.wide 7 trivial rfl _ _ _ _).mono ?_
  rintro e w' ⟨rfl, rfl⟩
  rw [Hs1.out]
  gi_wp2
  obtain ⟨W0, HW0⟩ : ∃ W0, Hid (W1.alloc (.cells #[.slice a c.length cap] 74) = W0) := ⟨_, Lib.hid rfl⟩
  have Hb01 : Hid (Below W1.heap.size W1 W0) := Lib.hid (by rw [← HW0.out]; exact (Below.refl _ _).alloc (Nat.le_refl _) _)
  have Hb0 : Hid (Below w.heap.size w W0) := Lib.hid (bnext Hb1.out Hb01.out)
  have Hs0 : Hid (W0.heap.size = K + 4) := Lib.hid (by rw [← HW0.out]; simp [Hs1.out])
  have aK : Boxed W0 K 3 (.int .i64 (i : Int)) := by rw [← HW0.out]; exact HbK.out.alloc _
  have aS : Boxed W0 (K + 1) 9 (.string ⟨#[]⟩) := by rw [← HW0.out]; exact HbS.out.alloc _
  have aB : Boxed W0 (K + 1 + 1) 4 (.bool false) := by rw [← HW0.out]; exact HbB.out.alloc _
  have aX : Boxed W0 (K + 3) 74 (.slice a c.length cap) := by
    have := Boxed.new W1 74 (.slice a c.length cap)
    rw [Hs1.out, HW0.out] at this; exact this
  have Hrow0 := Lib.hid (Hrow1.out.later (Mod.of_below (S := fun _ => False) Hb01.out) (fun _ _ => id))
  rw [HW0.out]
  have hcn : c.length ≤ 1000000 := Nat.le_trans Hcn.out Hsm.out
  have hwK := HK.out
  have hs0 := Hs0.out
  refine wpIn_rangeFunc_ownH rfl (by omega) (gf := 77) (lb := #[.pointer (some ⟨K + 3, 0, none⟩)]) rfl trivial (enters_of Try.func77 (by kernel_rfl) rfl)
    (back_stops Fence.wide 7 trivial rfl (by omega) (K + 3) W0.heap.size a cap c hcn W0 (by omega) (Nat.le_refl _) aX.cell Hrow0.out (fun g hg => Hrow0.out.blk_lt hg)) belowK_t (belowK_b (Nat.le_refl _)) (Below.refl _ _) (fun _ => rfl)
    (fun pre W => ((((∀ x ∈ pre, x.2.1 ≠ i) ∧ Boxed W K 3 (.int .i64 (i : Int))) ∧ Boxed W (K + 1) 9 (.string ⟨#[]⟩)) ∧ Boxed W (K + 1 + 1) 4 (.bool false)) ∧ Below W0.heap.size W0 W)
    (fun cd pre W => (((cd = .ret ∧ Hit i pre) ∧ Boxed W (K + 1) 9 (.string (str (lastP pre)))) ∧ Boxed W (K + 1 + 1) 4 (.bool true)) ∧ Below w.heap.size w W)
    (OwnFrom.and (OwnFrom.and (OwnFrom.and (OwnFrom.and (ownFrom_pure _ _) (Own.from (boxed_own _ _ _) _)) (Own.from (boxed_own _ _ _) _)) (Own.from (boxed_own _ _ _) _)) (ownFrom_below (Nat.le_refl _) (Nat.le_refl _)))
    (fun cd => OwnFrom.and (OwnFrom.and (OwnFrom.and (ownFrom_pure _ _) (Own.from (boxed_own (K + 1) 9 (fun pre => Value.string (str (lastP pre)))) _)) (Own.from (boxed_own _ _ _) _)) (ownFrom_below (Nat.le_refl _) (by omega)))
    ⟨⟨⟨⟨by simp, aK⟩, aS⟩, aB⟩, Below.refl _ _⟩
    (fun x a' W => ∃ Bx, K + 1 + 1 < Bx ∧ Boxed2 W Bx 76 (.int .i64 (x.2.1 : Int)) (.string (str x.2.2)) ∧ a' = { tmps := #[.pointer (some ⟨b, 0, none⟩), .int .i64 k, .int .i64 (i : Int), undef, undef, .pointer (some ⟨K, 0, none⟩), .pointer (some ⟨K + 1, 0, none⟩), .pointer (some ⟨K + 1 + 1, 0, none⟩), undef, .pointer (some ⟨Bx, 0, none⟩), .pointer (some ⟨b, 0, none⟩), .pointer (some ⟨b, 0, none⟩), .pointer (some ⟨b, 2, none⟩), .map (some cb), .int .i64 k, .slice a c.length cap, .func (.func 77) #[] #[.pointer (some ⟨K + 3, 0, none⟩)], .int .i64 (x.1 : Int), .agg #[.int .i64 (x.2.1 : Int), .string (str x.2.2)], undef, undef, undef, undef, undef, undef], defers := [] })
    (fun x a' _ X Y row hs hg hr => by obtain ⟨Bx, e1, e2, e3⟩ := hs; exact ⟨Bx, e1, boxed2_own e2 hg (fun r e => (hr r e).2), e3⟩)
    ?assign ?body ?done ?stop
  case assign =>
    rintro l pre x W K' ⟨⟨⟨⟨hp, bK1⟩, bS1⟩, bB1⟩, hB1⟩ hK
    simp only [encB]
    gi_wp2
    exact hK _ _ ((KeepsOthers.alloc _ _).from _) ((Below.refl _ W).alloc hB1.size _) ⟨⟨⟨⟨hp, bK1.alloc _⟩, bS1.alloc _⟩, bB1.alloc _⟩, hB1.alloc hB1.size _⟩ ⟨W.heap.size, bB1.lt, Boxed2.new W _ _ _, rfl⟩
  case body =>
    rintro l pre x a' W hl ⟨r, hr⟩ ⟨⟨⟨⟨hp, bK1⟩, bS1⟩, bB1⟩, hB1⟩ ⟨Bx, hBx, bX, rfl⟩ hlt
    have cK := bK1.cell
    have cS := bS1.cell
    have fS := bS1.frozen
    have cB := bB1.cell
    have fB := bB1.frozen
    have cX0 := bX.cell0
    have cX1 := bX.cell1
    by_cases hxi : x.2.1 = i
    · have hne : ((x.2.1 : Int) != (i : Int)) = false := bne_no (by omega)
      have Hxi := Lib.hid hxi
      clear hxi
      gi_wp2
      have hbw : Below w.heap.size w W := Hb0.out.trans (hB1.mono (by omega))
      refine ⟨((KeepsOthers.setCell _ _ _).trans (KeepsOthers.setCell _ _ _)).from _, ⟨⟨⟨rfl, ⟨pre, x.1, x.2, rfl, Hxi.out, hp⟩⟩, ?_⟩, ?_⟩, (hbw.setCell (p := ⟨K + 1, 0, none⟩) (by simp; omega) _).setCell (p := ⟨K + 1 + 1, 0, none⟩) (by simp; omega) _⟩
      · rw [lastP_snoc]
        exact (bS1.set _).other (by omega) _
      · exact (bB1.other (by omega) _).set _
    · have hne : ((x.2.1 : Int) != (i : Int)) = true := bne_yes (by omega)
      gi_wp2
      exact ⟨KeepsFrom.refl _ _, Below.refl _ _, ⟨⟨⟨fun z hz => (List.mem_append.1 hz).elim (hp z) (fun e => by simp at e; subst e; exact hxi), bK1⟩, bS1⟩, bB1⟩, hB1⟩
  case done =>
    rintro D zs W hD rfl ⟨⟨⟨⟨hp, bK1⟩, bS1⟩, bB1⟩, hB1⟩ hK
    have cS := bS1.cell
    have fS := bS1.frozen
    have cB := bB1.cell
    have fB := bB1.frozen
    gi_wp2
    rw [Exit.noGoto_ret]
    gi_wp2
    have hK1 := (KeepsOthers.setCell W ⟨K + 1, 0, none⟩ (.string ⟨#[]⟩)).same D _ hK rfl
    have hK' := (KeepsOthers.setCell (W.setCell ⟨K + 1, 0, none⟩ (.string ⟨#[]⟩)) ⟨K + 1 + 1, 0, none⟩ (.bool false)).same D _ hK1 rfl
    refine ⟨by simp, .inl ⟨_, _, rfl, run_takeDeferred hK', ?_⟩⟩
    have r1 := cell_kept ((bS1.set (.string ⟨#[]⟩)).other (B' := K + 1 + 1) (by omega) (.bool false)).cell (grownBy_putObj' _ D (.deferred none)) (fun r e => by cases e; exact ⟨_, hK', rfl⟩)
    have r2 := cell_kept ((bB1.other (B' := K + 1) (by omega) (.string ⟨#[]⟩)).set (.bool false)).cell (grownBy_putObj' _ D (.deferred none)) (fun r e => by cases e; exact ⟨_, hK', rfl⟩)
    have hbw : Below w.heap.size w W := Hb0.out.trans (hB1.mono (by omega))
    have hno : lastO c i = none := by
      rw [lastO, List.find?_eq_none]
      intro p hp'
      obtain ⟨j, hj, rfl⟩ := List.getElem_of_mem (List.mem_reverse.1 hp')
      have := hp (backAt c (c.length - 1 - j)) (by simp only [backs, List.mem_map, List.mem_range]; exact ⟨_, by omega, rfl⟩)
      rw [backAt, show c.length - 1 - (c.length - 1 - j) = j by omega, List.getD_eq_getElem?_getD, List.getElem?_eq_getElem hj] at this
      simpa using this
    have e1 : lastS c i = [] := by rw [lastS, hno]; rfl
    have e2 : lastB c i = false := by rw [lastB, hno]; rfl
    rw [e1, e2]
    refine ⟨.tuple #[.string ⟨#[]⟩, .bool false], ?_, rfl, ((hbw.setCell (p := ⟨K + 1, 0, none⟩) (by simp; omega) _).setCell (p := ⟨K + 1 + 1, 0, none⟩) (by simp; omega) _).trans (belowK_b (w := w) (Nat.le_refl _) _ D _ _ (by omega) hK' rfl rfl)⟩
    simp [results, Try.f52, go_sem, r1, r2]
  case stop =>
    rintro D cd pre W hD hpre ⟨⟨⟨⟨rfl, hhit⟩, bS1⟩, bB1⟩, hB1⟩ hK
    have cS := bS1.cell
    have cB := bB1.cell
    gi_wp2
    rw [Exit.noGoto_ret]
    gi_wp2
    refine ⟨by simp, .inl ⟨_, _, rfl, run_takeDeferred hK, ?_⟩⟩
    have r1 := cell_kept bS1.cell (grownBy_putObj' _ D (.deferred none)) (fun r e => by cases e; exact ⟨_, hK, rfl⟩)
    have r2 := cell_kept bB1.cell (grownBy_putObj' _ D (.deferred none)) (fun r e => by cases e; exact ⟨_, hK, rfl⟩)
    obtain ⟨kk, hkk, rfl⟩ := hpre
    have hsome := hit_last hkk hhit
    obtain ⟨p, hso, hlp⟩ := hsome
    have e1 : lastS c i = lastP (backs c kk) := by rw [lastS, hso, hlp]; rfl
    have e2 : lastB c i = true := by rw [lastB, hso]; rfl
    rw [e1, e2]
    refine ⟨.tuple #[.string (str (lastP (backs c kk))), .bool true], ?_, rfl, hB1.trans (belowK_b (w := w) (Nat.le_refl _) _ D _ _ (by omega) hK rfl rfl)⟩
    simp [results, Try.f52, go_sem, r1, r2]
theorem last_any (h : Dk w b ρ n0 s lb kb cb pv cf) {k : Int} (hk : (Lit.int .i64 k).wf = true) (i : Nat) :
    Calls Try.prog 52 #[.pointer (some ⟨b, 0, none⟩), .int .i64 k, .int .i64 (i : Int)] w fun e w' =>
      e = .returned (.tuple #[.string (str (lastS (s.caches k) i)), .bool (lastB (s.caches k) i)]) ∧ Below w.heap.size w w' := callsIn_wide.1 (last_in h hk i)
end
end Go.Proofs.Ytcahccjlompilaa
