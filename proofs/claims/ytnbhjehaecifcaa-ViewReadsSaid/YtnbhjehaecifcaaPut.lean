/- Lists copied, and cut. -/
import Derived.Test.YtnbhjehaecifcaaOw
import Derived.Lib.SliceRun
namespace Go.Proofs.Ytnbhjehaecifcaa
open Go.RowKit

theorem mcs_take (l : List Mb) (k : Nat) : (mcs l).take (k * 3) = mcs (l.take k) := by
  rcases Nat.lt_or_ge l.length k with h | h
  · rw [List.take_of_length_le (by rw [mcs_length]; omega), List.take_of_length_le (by omega)]
  · have e : mcs l = mcs (l.take k) ++ mcs (l.drop k) := by rw [← mcs_append, List.take_append_drop]
    rw [e, List.take_left' (by rw [mcs_length, List.length_take, Nat.min_eq_left h])]
theorem mcs_drop (l : List Mb) (k : Nat) : (mcs l).drop (k * 3) = mcs (l.drop k) := by
  rcases Nat.lt_or_ge l.length k with h | h
  · rw [List.drop_eq_nil_of_le (by rw [mcs_length]; omega), List.drop_eq_nil_of_le (by omega)]; rfl
  · have e : mcs l = mcs (l.take k) ++ mcs (l.drop k) := by rw [← mcs_append, List.take_append_drop]
    rw [e, List.drop_left' (by rw [mcs_length, List.length_take, Nat.min_eq_left h])]
/-- The first of a row, with no room behind. -/
theorem Row.first {w : World} {size g off n cap : Nat} {xs : List Value} (h : Row w size (.slice (some ⟨g, off, none⟩) n cap) n xs) {k : Nat} (hk : k ≤ n) : Row w size (.slice (some ⟨g, off, none⟩) k k) k (xs.take (k * size)) := by
  obtain ⟨hg, h1, h2, hc, hs, hf⟩ := h.cells'
  have hl := h.length
  have hks : k * size ≤ n * size := Nat.mul_le_mul_right _ hk
  refine ⟨by rw [List.length_take, Nat.min_eq_left (by omega)], .inr ⟨g, off, k, rfl, hg, Nat.le_refl _, by omega, fun j u hu => ?_, fun j hj => by simp at hj, fun j hj => hf j (by have := Nat.mul_le_mul_right size h1; omega)⟩⟩
  have hlt := (List.getElem?_eq_some_iff.1 hu).1
  rw [List.length_take] at hlt
  rw [List.getElem?_take_of_lt (by omega)] at hu
  exact hc j u hu
theorem isL_mcs {w : World} {A : Option Addr} {n c : Nat} {l : List Mb} (h : IsL w A n c l) (hn : 0 < n) : ∃ g off, A = some ⟨g, off, none⟩ ∧ g < w.heap.size ∧ ∀ j u, (mcs l)[j]? = some u → w.cell? ((⟨g, off, none⟩ : Addr).add j) = some u := by
  obtain ⟨g, off, e, hg, hc⟩ := h.cells hn
  refine ⟨g, off, e, hg, fun j u hu => ?_⟩
  rw [add_plain]
  have hj := (List.getElem?_eq_some_iff.1 hu).1
  rw [mcs_length] at hj
  obtain ⟨m, hm⟩ : ∃ m, l[j / 3]? = some m := ⟨_, List.getElem?_eq_getElem (by omega)⟩
  obtain ⟨c0, c1, c2⟩ := hc _ _ hm
  obtain ⟨p0, p1, p2⟩ := mcs_get l _ m hm
  rcases (by omega : j = j / 3 * 3 ∨ j = j / 3 * 3 + 1 ∨ j = j / 3 * 3 + 2) with e | e | e
  · rw [e] at hu ⊢; rw [p0] at hu; rw [c0, ← hu]
  · rw [e] at hu ⊢; rw [p1] at hu; rw [← hu, ← c1, Nat.add_assoc]
  · rw [e] at hu ⊢; rw [p2] at hu; rw [← hu, ← c2, Nat.add_assoc]
/-- The law of an append to a row of members. -/
theorem appM {w : World} {v : Value} {n : Nat} {xs : List Value} (h : Row w 3 v n xs) (ad : Addr) (m c : Nat) (news : List Value) (hl : news.length = m * 3) (hnews : ∀ j u, news[j]? = some u → w.cell? (ad.add j) = some u) (h1 : ∀ u ∈ news, u.oneCell' = true) (hs : n + m ≤ 100000) :
    ∃ v' w', (Builtin.append_ #[22, 22] 22 #[v, .slice (some ad) m c]).run Try.prog w = .ok v' w' ∧ Row w' 3 v' (n + m) (xs ++ news) ∧ Mod (fun g => blk v = some g) w w' ∧ (blk v' = blk v ∨ ∃ g, blk v' = some g ∧ w.heap.size ≤ g) := by
  obtain ⟨i, hi, hz0, hz1, hz2⟩ := info_parts infoM
  exact append_any h 22 22 43 i _ 24 Try.underlying22 hi hz0 hz1 hz2 rfl (by decide) ad m c news hl hnews h1 (by unfold maxLen; omega) (by omega)
theorem appI {w : World} {v : Value} {n : Nat} {xs : List Value} (h : Row w 1 v n xs) (ad : Addr) (m c : Nat) (news : List Value) (hl : news.length = m * 1) (hnews : ∀ j u, news[j]? = some u → w.cell? (ad.add j) = some u) (h1 : ∀ u ∈ news, u.oneCell' = true) (hs : n + m ≤ 100000) :
    ∃ v' w', (Builtin.append_ #[23, 23] 23 #[v, .slice (some ad) m c]).run Try.prog w = .ok v' w' ∧ Row w' 1 v' (n + m) (xs ++ news) ∧ Mod (fun g => blk v = some g) w w' ∧ (blk v' = blk v ∨ ∃ g, blk v' = some g ∧ w.heap.size ≤ g) := by
  obtain ⟨i, hi, hz0, hz1, hz2⟩ := info_parts infoI
  exact append_any h 23 23 3 i _ 8 Try.underlying23 hi hz0 hz1 hz2 rfl (by decide) ad m c news hl hnews h1 (by unfold maxLen; omega) (by omega)
/-- append of nothing that lies nowhere. -/
theorem append_nil {w : World} {size : Nat} {v : Value} {n : Nat} {xs : List Value} (h : Row w size v n xs) (t ty e : TypeId) (i : TypeInfo) (ht : Try.prog.underlying t = some (.slice e)) (hi : Try.prog.info? e = some i) (c : Nat) :
    (Builtin.append_ #[t, t] ty #[v, .slice none 0 c]).run Try.prog w = .ok v w := by
  rcases h.is with ⟨rfl, rfl⟩ | ⟨g, off, cap, rfl, _, hnc, _⟩
  · simp [Builtin.append_, run_underlying ht, sizeOf, typeInfo, hi, Builtin.lenOf, Builtin.firstCells]
  · simp [Builtin.append_, run_underlying ht, sizeOf, typeInfo, hi, Builtin.lenOf, Builtin.firstCells, hnc, storeCells]
/-- append of members that are read anywhere. -/
theorem appL {w : World} {v : Value} {n : Nat} {xs : List Value} (h : Row w 3 v n xs) {A : Option Addr} {m c : Nat} {l : List Mb} (hs : IsL w A m c l) (hsm : n + m ≤ 100000) :
    ∃ v' w', (Builtin.append_ #[22, 22] 22 #[v, .slice A m c]).run Try.prog w = .ok v' w' ∧ Row w' 3 v' (n + m) (xs ++ mcs l) ∧ Mod (fun g => blk v = some g) w w' ∧ (blk v' = blk v ∨ ∃ g, blk v' = some g ∧ w.heap.size ≤ g) := by
  obtain ⟨i, hi, hz0, hz1, hz2⟩ := info_parts infoM
  rcases Nat.eq_zero_or_pos m with h0 | h0
  · subst h0
    have hl : l = [] := List.eq_nil_of_length_eq_zero hs.length
    subst hl
    refine ⟨v, w, ?_, by simpa [mcs] using h, Mod.refl _ _, .inl rfl⟩
    cases A with
    | none => exact append_nil h _ _ _ i Try.underlying22 hi c
    | some ad => exact append_zero h _ _ _ i Try.underlying22 hi ad c
  · obtain ⟨g, off, rfl, _, hc⟩ := isL_mcs hs h0
    exact appM h _ m c (mcs l) (by rw [mcs_length, hs.length]) hc (mcs_one' l) hsm
theorem appIs {w : World} {v : Value} {n : Nat} {xs : List Value} (h : Row w 1 v n xs) {A : Option Addr} {m c : Nat} {l : List Int} (hs : IsI w A m c l) (hsm : n + m ≤ 100000) :
    ∃ v' w', (Builtin.append_ #[23, 23] 23 #[v, .slice A m c]).run Try.prog w = .ok v' w' ∧ Row w' 1 v' (n + m) (xs ++ ics l) ∧ Mod (fun g => blk v = some g) w w' ∧ (blk v' = blk v ∨ ∃ g, blk v' = some g ∧ w.heap.size ≤ g) := by
  obtain ⟨i, hi, hz0, hz1, hz2⟩ := info_parts infoI
  rcases Nat.eq_zero_or_pos m with h0 | h0
  · subst h0
    have hl : l = [] := List.eq_nil_of_length_eq_zero hs.length
    subst hl
    refine ⟨v, w, ?_, by simpa [ics] using h, Mod.refl _ _, .inl rfl⟩
    cases A with
    | none => exact append_nil h _ _ _ i Try.underlying23 hi c
    | some ad => exact append_zero h _ _ _ i Try.underlying23 hi ad c
  · obtain ⟨g, off, rfl, _, hc⟩ := hs.cells h0
    refine appI h _ m c (ics l) (by rw [ics_length, hs.length]) (fun j u hu => ?_) (ics_one l) hsm
    rw [add_plain]
    obtain ⟨z, hz⟩ : ∃ z, l[j]? = some z := ⟨_, List.getElem?_eq_getElem (by have := (List.getElem?_eq_some_iff.1 hu).1; rw [ics_length] at this; omega)⟩
    rw [ics_get hz] at hu
    rw [hc j z hz, ← hu]

theorem row_empty (w : World) (size : Nat) (t : TypeId) : Row (w.alloc (.cells #[] t)) size (.slice (some ⟨w.heap.size, 0, none⟩) 0 0) 0 [] :=
  ⟨by simp, .inr ⟨w.heap.size, 0, 0, rfl, by simp, Nat.le_refl _, by simp, fun j u hu => by simp at hu, fun j hj => by simp at hj, fun j hj => by simp at hj⟩⟩
/-- append as an operation, by what it is told to run to. -/
theorem wpList_append_run {w w' : World} {ops : Array Oper} {rest : List Oper} {o : Oper} {a : Act} {Q : Exit → Act → World → Prop} (hgd : o.guard = none) (s x : Operand) (t : TypeId)
    (ho : o.op = .call { callee := .builtin .append, args := #[s, x], argTypes := #[t, t] }) {v' : Value} (hr : (Builtin.append_ #[t, t] o.type #[a.eval s, a.eval x]).run Try.prog w = .ok v' w')
    (h : wpList Try.prog ops Q rest (a.put o.dst v') w') : wpList Try.prog ops Q (o :: rest) a w := by
  refine wpList_plain hgd fun K' hK' => ?_
  unfold Oper.wp
  rw [exec_append ho hr]
  exact hK' _ _ h
set_option maxHeartbeats 1000000 in
theorem CloneM_any (w : World) (A : Option Addr) (n c : Nat) (l : List Mb) (h : IsL w A n c l) (hs : n ≤ 1000) :
    Calls Try.prog 60 #[.slice A n c] w fun e w' => ∃ A' c', e = .returned (.slice A' n c') ∧ RowM w' A' n c' l ∧ Below w.heap.size w w' ∧ ∀ g, blk (.slice A' n c') = some g → w.heap.size ≤ g := by
  have hq := fun (w : World) => Lib.run_eql_slice_nil (P := Try.prog) w 22 43 A n c 0 0 Try.underlying22
  cases A with
  | none =>
    have hc0 := h.nil rfl
    have hn0 : n = 0 := by have := h.le; omega
    have hl : l = [] := List.eq_nil_of_length_eq_zero (by rw [h.length, hn0])
    subst hc0 hn0 hl
    clear h
    go_enter Try.func60, Try.ntmps60
    go_wp2
    go_ret
    exact ⟨none, 0, rfl, row_nil _ _, Below.refl _ _, fun g hg => by cases hg⟩
  | some a =>
    have Hh := Lib.hid h
    clear h
    have hb1 : Below w.heap.size w (w.alloc (.cells #[] 43)) := (Below.refl _ _).alloc (Nat.le_refl _) _
    obtain ⟨v', w2, hr, hrow, hm, hbk⟩ := appL (row_empty w 3 43) (Hh.out.below hb1) (by omega)
    simp only [Nat.zero_add, List.nil_append] at hr hrow
    obtain ⟨A', c', e⟩ := row_shape hrow
    subst e
    have HB : Hid (Below w.heap.size w w2) := Lib.hid (hm.below hb1 (by simp) (fun g hg => by simp [blk] at hg; omega))
    have HN : Hid (∀ g, blk (.slice A' n c') = some g → w.heap.size ≤ g) := Lib.hid (fun g hg => by
      rcases hbk with h1 | ⟨g', h1, h2⟩
      · rw [hg] at h1; simp [blk] at h1; omega
      · rw [hg] at h1; injection h1 with h1; simp at h2; omega)
    have Hr := Lib.hid hr
    have Hrow := Lib.hid hrow
    clear hr hrow hm hbk hb1
    go_enter Try.func60, Try.ntmps60
    go_wp2_with (at_builtin; refine wpList_append_run rfl (.tmp 5) (.tmp 6) 22 rfl Hr.out ?_)
    go_ret
    exact ⟨A', c', rfl, Hrow.out, HB.out, HN.out⟩
set_option maxHeartbeats 1000000 in
theorem CloneI_any (w : World) (A : Option Addr) (n c : Nat) (l : List Int) (h : IsI w A n c l) (hs : n ≤ 1000) :
    Calls Try.prog 61 #[.slice A n c] w fun e w' => ∃ A' c', e = .returned (.slice A' n c') ∧ RowI w' A' n c' l ∧ Below w.heap.size w w' ∧ ∀ g, blk (.slice A' n c') = some g → w.heap.size ≤ g := by
  have hq := fun (w : World) => Lib.run_eql_slice_nil (P := Try.prog) w 23 3 A n c 0 0 Try.underlying23
  cases A with
  | none =>
    have hc0 := h.nil rfl
    have hn0 : n = 0 := by have := h.le; omega
    have hl : l = [] := List.eq_nil_of_length_eq_zero (by rw [h.length, hn0])
    subst hc0 hn0 hl
    clear h
    go_enter Try.func61, Try.ntmps61
    go_wp2
    go_ret
    exact ⟨none, 0, rfl, row_nil _ _, Below.refl _ _, fun g hg => by cases hg⟩
  | some a =>
    have Hh := Lib.hid h
    clear h
    have hb1 : Below w.heap.size w (w.alloc (.cells #[] 3)) := (Below.refl _ _).alloc (Nat.le_refl _) _
    obtain ⟨v', w2, hr, hrow, hm, hbk⟩ := appIs (row_empty w 1 3) (Hh.out.below hb1) (by omega)
    simp only [Nat.zero_add, List.nil_append] at hr hrow
    obtain ⟨A', c', e⟩ := row_shape hrow
    subst e
    have HB : Hid (Below w.heap.size w w2) := Lib.hid (hm.below hb1 (by simp) (fun g hg => by simp [blk] at hg; omega))
    have HN : Hid (∀ g, blk (.slice A' n c') = some g → w.heap.size ≤ g) := Lib.hid (fun g hg => by
      rcases hbk with h1 | ⟨g', h1, h2⟩
      · rw [hg] at h1; simp [blk] at h1; omega
      · rw [hg] at h1; injection h1 with h1; simp at h2; omega)
    have Hr := Lib.hid hr
    have Hrow := Lib.hid hrow
    clear hr hrow hm hbk hb1
    go_enter Try.func61, Try.ntmps61
    go_wp2_with (at_builtin; refine wpList_append_run rfl (.tmp 5) (.tmp 6) 23 rfl Hr.out ?_)
    go_ret
    exact ⟨A', c', rfl, Hrow.out, HB.out, HN.out⟩
/-- A view written over a block's cells. -/
@[reducible] def setV (w : World) (r : Nat) (x : Vx) : World :=
  ((((w.setCell ⟨r, 0, none⟩ (.int .i64 x.nodes)).setCell ⟨r, 1, none⟩ (.int .i64 x.epoch)).setCell ⟨r, 2, none⟩ (mS x)).setCell ⟨r, 3, none⟩ (dS x)).setCell ⟨r, 4, none⟩ (iS x)
theorem setV_mod (w : World) (r : Nat) (x : Vx) : Mod (· = r) w (setV w r x) :=
  ((((Mod.set1 (Mod.refl _ w) _).set1 _).set1 _).set1 _).set1 _
theorem setV_box {w : World} {r : Nat} {y : Vx} (h : BoxV w r y) (x : Vx) : BoxV (setV w r x) r x :=
  ((((h.put 0 (.int .i64 x.nodes) { y with nodes := x.nodes } rfl).put 1 (.int .i64 x.epoch) { y with nodes := x.nodes, epoch := x.epoch } rfl).put 2 (mS x) { y with nodes := x.nodes, epoch := x.epoch, mA := x.mA, mn := x.mn, mc := x.mc } rfl).put 3 (dS x) { y with nodes := x.nodes, epoch := x.epoch, mA := x.mA, mn := x.mn, mc := x.mc, dA := x.dA, dn := x.dn, dc := x.dc } rfl).put 4 (iS x) x rfl
/-- What of a view is told: its lists lie in blocks of their own. -/
structure Told (w : World) (B : Nat) (x : Vx) (V : Vw) : Prop where
  nodes : x.nodes = V.nodes
  epoch : x.epoch = V.epoch
  mem : RowM w x.mA x.mn x.mc V.mem
  dead : RowM w x.dA x.dn x.dc V.dead
  incs : RowI w x.iA x.ir x.ic V.incs
  newM : ∀ g, blk (mS x) = some g → B ≤ g
  newD : ∀ g, blk (dS x) = some g → B ≤ g
  newI : ∀ g, blk (iS x) = some g → B ≤ g
  md : ∀ g, blk (mS x) = some g → blk (dS x) = some g → False
  mi : ∀ g, blk (mS x) = some g → blk (iS x) = some g → False
  di : ∀ g, blk (dS x) = some g → blk (iS x) = some g → False
theorem Told.isV {w : World} {B : Nat} {x : Vx} {V : Vw} (h : Told w B x V) : IsV w x V := ⟨h.nodes, h.epoch, h.mem.isL, h.dead.isL, h.incs.isI⟩
theorem Told.kept {w w' : World} {B : Nat} {x : Vx} {V : Vw} (h : Told w B x V) {S : Nat → Prop} (m : Mod S w w') (hs : ∀ g, S g → (blk (mS x) ≠ some g ∧ blk (dS x) ≠ some g ∧ blk (iS x) ≠ some g)) : Told w' B x V :=
  { h with
    mem := h.mem.later m (fun g hg e => (hs g e).1 hg)
    dead := h.dead.later m (fun g hg e => (hs g e).2.1 hg)
    incs := h.incs.later m (fun g hg e => (hs g e).2.2 hg) }
theorem Ow.told {w : World} {B b r : Nat} {x : Vx} {V : Vw} (h : Ow w B b r x V) : Told w B x V :=
  ⟨h.nodes, h.epoch, h.mem, h.dead, h.incs, fun g hg => (h.newM g hg).1, fun g hg => (h.newD g hg).1, fun g hg => (h.newI g hg).1, h.md, h.mi, h.di⟩
/-- The view written where it is told from. -/
theorem Ow.tell {w : World} {B b r : Nat} {x : Vx} {V : Vw} (h : Ow w B b r x V) : Told (setV w r x) B x V :=
  h.told.kept (setV_mod w r x) (fun g e => by
    subst e
    exact ⟨fun h1 => (h.newM _ h1).2.2 rfl, fun h1 => (h.newD _ h1).2.2 rfl, fun h1 => (h.newI _ h1).2.2 rfl⟩)
set_option maxHeartbeats 2000000 in
theorem own_any (w : World) (x : Vx) (V : Vw) (h : IsV w x V) (h1 : V.mem.length ≤ 1000) (h2 : V.dead.length ≤ 1000) (h3 : V.incs.length ≤ 1000) :
    Calls Try.prog 38 #[vV x] w fun e w' => ∃ x', e = .returned (vV x') ∧ Below w.heap.size w w' ∧ Told w' w.heap.size x' V := by
  have Hh := Lib.hid h
  have H1 : Hid (x.mn ≤ 1000) := Lib.hid (by rw [← h.mem.length]; exact h1)
  have H2 : Hid (x.dn ≤ 1000) := Lib.hid (by rw [← h.dead.length]; exact h2)
  have H3 : Hid (x.ir ≤ 1000) := Lib.hid (by rw [← h.incs.length]; exact h3)
  clear h h1 h2 h3
  go_enter Try.func38, Try.ntmps38
  go_wp2
  obtain ⟨w1, Hw1⟩ : ∃ w1, Hid ((w.alloc (.cells (vC x) 25)).alloc (.cells (vC noVx) 25) = w1) := ⟨_, Lib.hid rfl⟩
  obtain ⟨p, Hp⟩ : ∃ p, Hid (w.heap.size = p) := ⟨_, Lib.hid rfl⟩
  have HA : Hid (BoxV w1 p x) := Lib.hid (by rw [← Hw1.out, ← Hp.out]; exact (BoxV.new w x).below ((Below.refl _ _).alloc (Nat.le_refl _) _))
  have HR : Hid (BoxV w1 (p + 1) noVx) := Lib.hid (by
    have := BoxV.new (w.alloc (.cells (vC x) 25)) noVx
    rw [Hw1.out] at this
    simpa [Hp.out] using this)
  have Hb1 : Hid (Below w.heap.size w w1) := Lib.hid (by rw [← Hw1.out]; exact balloc ((Below.refl _ _).alloc (Nat.le_refl _) _) _)
  rw [show w.alloc (.cells #[.int .i64 x.nodes, .int .i64 x.epoch, .slice x.mA x.mn x.mc, .slice x.dA x.dn x.dc, .slice x.iA x.ir x.ic] 25) = w.alloc (.cells (vC x) 25) from rfl] at *
  rw [show ((w.alloc (.cells (vC x) 25)).alloc (.cells #[.int .i64 0, .int .i64 0, .slice none 0 0, .slice none 0 0, .slice none 0 0] 25)) = w1 from Hw1.out, Hp.out]
  have c2 : ∀ y : In (Abv w1), y.u.cell? ⟨p, 2, none⟩ = some (.slice x.mA x.mn x.mc) := fun y => (HA.out.below y.is).cells.2.2.1
  have c3 : ∀ y : In (Abv w1), y.u.cell? ⟨p, 3, none⟩ = some (.slice x.dA x.dn x.dc) := fun y => (HA.out.below y.is).cells.2.2.2.1
  have c4 : ∀ y : In (Abv w1), y.u.cell? ⟨p, 4, none⟩ = some (.slice x.iA x.ir x.ic) := fun y => (HA.out.below y.is).cells.2.2.2.2
  refine wp_region_mix (by kernel_rfl) (Cls (Abv w1)) [(0, 0), (1, 0), (3, 0), (4, 0), (6, 0), (7, 0), (2, 1), (9, 0), (5, 1), (8, 1), (10, 2), (11, 2), (12, 2), (13, 2), (14, 2)] (by kernel_rfl) (cls (Below.refl _ _).drew) ?_
  repeat (refine mix0 rfl (fun K hK => ?_); go_simp; refine hK _ ?_; clear hK K)
  refine mix1 rfl (fun K hK => ?_)
  go_simp
  refine (CloneM_any _ _ _ _ V.mem (Hh.out.mem.below (Hb1.out.trans ((Below.refl w.heap.size w1).drew))) H1.out).mono ?_
  rintro e w2 ⟨mA, mc, rfl, r2, hb2, n2⟩
  have Hb2 : Hid (Below w1.heap.size w1 w2) := Lib.hid ((Below.refl _ _).drew.trans hb2)
  have R2 := Lib.hid r2
  have N2 := Lib.hid n2
  clear hb2 r2 n2
  refine ⟨_, rfl, hK _ _ (cls Hb2.out) ?_⟩
  clear hK K
  repeat (refine mix0 rfl (fun K hK => ?_); go_simp; refine hK _ ?_; clear hK K)
  refine mix1 rfl (fun K hK => ?_)
  go_simp
  refine (CloneM_any _ _ _ _ V.dead ((Hh.out.dead.below Hb1.out).below Hb2.out) H2.out).mono ?_
  rintro e w3 ⟨dA, dc, rfl, r3, hb3, n3⟩
  have Hb3 : Hid (Below w2.heap.size w2 w3) := Lib.hid hb3
  have R3 := Lib.hid r3
  have N3 := Lib.hid n3
  clear hb3 r3 n3
  refine ⟨_, rfl, hK _ _ (cls (bnext Hb2.out Hb3.out)) ?_⟩
  clear hK K
  refine mix1 rfl (fun K hK => ?_)
  go_simp
  refine (CloneI_any _ _ _ _ V.incs ((Hh.out.incs.below Hb1.out).below (bnext Hb2.out Hb3.out)) H3.out).mono ?_
  rintro e w4 ⟨iA, ic, rfl, r4, hb4, n4⟩
  have Hb4 : Hid (Below w3.heap.size w3 w4) := Lib.hid hb4
  have R4 := Lib.hid r4
  have N4 := Lib.hid n4
  clear hb4 r4 n4
  refine ⟨_, rfl, hK _ _ (cls (bnext (bnext Hb2.out Hb3.out) Hb4.out)) ?_⟩
  clear hK K c2 c3 c4
  have Hs2 : Hid (w1.heap.size ≤ w2.heap.size) := Lib.hid Hb2.out.size
  have Hs3 : Hid (w2.heap.size ≤ w3.heap.size) := Lib.hid Hb3.out.size
  have Hs4 : Hid (w3.heap.size ≤ w4.heap.size) := Lib.hid Hb4.out.size
  have Hpl : Hid (p + 1 < w1.heap.size) := Lib.hid HR.out.lt
  have HBx : Hid (BoxV w4 p x) := Lib.hid (HA.out.below (bnext (bnext Hb2.out Hb3.out) Hb4.out))
  have HBr : Hid (BoxV w4 (p + 1) noVx) := Lib.hid (HR.out.below (bnext (bnext Hb2.out Hb3.out) Hb4.out))
  obtain ⟨x', Hx⟩ : ∃ x' : Vx, Hid (({ x with mA := mA, mc := mc, dA := dA, dc := dc, iA := iA, ic := ic } : Vx) = x') := ⟨_, Lib.hid rfl⟩
  have HT : Hid (Told w4 (p + 2) x' V) := Lib.hid (by
    have k23 : Below w2.heap.size w2 w4 := bnext Hb3.out Hb4.out
    have hw1 : p + 2 ≤ w1.heap.size := Hpl.out
    have a2 : ∀ g, blk (.slice mA x.mn mc) = some g → g < w2.heap.size := fun g hg => R2.out.blk_lt hg
    have a3 : ∀ g, blk (.slice dA x.dn dc) = some g → g < w3.heap.size := fun g hg => R3.out.blk_lt hg
    rw [← Hx.out]
    refine ⟨Hh.out.nodes, Hh.out.epoch, R2.out.later (Mod.of_below (S := fun _ => False) k23) (fun _ _ => id), R3.out.later (Mod.of_below (S := fun _ => False) Hb4.out) (fun _ _ => id), R4.out, fun g hg => ?_, fun g hg => ?_, fun g hg => ?_, fun g h1 h2 => ?_, fun g h1 h2 => ?_, fun g h1 h2 => ?_⟩
    · exact Nat.le_trans hw1 (N2.out g hg)
    · exact Nat.le_trans hw1 (Nat.le_trans Hs2.out (N3.out g hg))
    · exact Nat.le_trans hw1 (Nat.le_trans Hs2.out (Nat.le_trans Hs3.out (N4.out g hg)))
    · have := a2 g h1; have := N3.out g h2; omega
    · have := a2 g h1; have := N4.out g h2; have := Hs3.out; omega
    · have := a3 g h1; have := N4.out g h2; omega)
  have HB4 : Hid (Below w.heap.size w w4) := Lib.hid (bnext Hb1.out (bnext (bnext Hb2.out Hb3.out) Hb4.out))
  have b2 := HBx.out.cells.2.2.1
  have b3 := HBx.out.cells.2.2.2.1
  have b4 := HBx.out.cells.2.2.2.2
  have f2 := HBx.out.free 2
  have f3 := HBx.out.free 3
  have f4 := HBx.out.free 4
  refine mix2 rfl (fun K hK => ?_); go_simp; refine hK _ _ ?_; clear hK K
  refine mix2 rfl (fun K hK => ?_); go_simp; refine hK _ _ ?_; clear hK K
  refine mix2 rfl (fun K hK => ?_); go_simp; refine hK _ _ ?_; clear hK K
  refine mix2 rfl (fun K hK => ?_); go_simp; refine hK _ _ ?_; clear hK K
  refine mix2 rfl (fun K hK => ?_); go_simp; refine hK _ _ ?_; clear hK K
  refine mixEnd ?_
  clear b2 b3 b4 f2 f3 f4
  obtain ⟨w5, Hw5⟩ : ∃ w5, Hid (((w4.setCell ⟨p, 2, none⟩ (.slice mA x.mn mc)).setCell ⟨p, 3, none⟩ (.slice dA x.dn dc)).setCell ⟨p, 4, none⟩ (.slice iA x.ir ic) = w5) := ⟨_, Lib.hid rfl⟩
  have M5 : Hid (Mod (· = p) w4 w5) := Lib.hid (by rw [← Hw5.out]; exact (((Mod.refl _ w4).set1 _).set1 _).set1 _)
  have HX5 : Hid (BoxV w5 p x') := Lib.hid (by
    rw [← Hw5.out, ← Hx.out]
    exact ((HBx.out.put 2 (.slice mA x.mn mc) { x with mA := mA, mc := mc } rfl).put 3 (.slice dA x.dn dc) { x with mA := mA, mc := mc, dA := dA, dc := dc } rfl).put 4 (.slice iA x.ir ic) _ rfl)
  have HR5 : Hid (BoxV w5 (p + 1) noVx) := Lib.hid (HBr.out.kept M5.out (by omega))
  have HT5 : Hid (Told w5 (p + 2) x' V) := Lib.hid (HT.out.kept M5.out (fun g e => by
    have e' : g = p := e
    subst e'
    exact ⟨fun h => by have := HT.out.newM _ h; omega, fun h => by have := HT.out.newD _ h; omega, fun h => by have := HT.out.newI _ h; omega⟩))
  rw [Hw5.out]
  have HB5 : Hid (Below w.heap.size w w5) := Lib.hid (bmod HB4.out M5.out (by rw [Hp.out]; omega))
  have M6 := Lib.hid (setV_mod w5 (p + 1) x')
  have HT6 : Hid (Told (setV w5 (p + 1) x') p x' V) := Lib.hid (by
    have h := HT5.out.kept M6.out (fun g e => by
      have e' : g = p + 1 := e
      subst e'
      exact ⟨fun h => by have := HT5.out.newM _ h; omega, fun h => by have := HT5.out.newD _ h; omega, fun h => by have := HT5.out.newI _ h; omega⟩)
    exact { h with
      newM := fun g hg => by have := h.newM g hg; omega
      newD := fun g hg => by have := h.newD g hg; omega
      newI := fun g hg => by have := h.newI g hg; omega })
  have HS6 := Lib.hid (setV_box HR5.out x')
  obtain ⟨v0, v1, v2, v3, v4⟩ := HX5.out.cells
  obtain ⟨r0, r1, r2, r3, r4⟩ := HR5.out.cells
  have f0 := HR5.out.free 0
  have f1 := HR5.out.free 1
  have f2 := HR5.out.free 2
  have f3 := HR5.out.free 3
  have f4 := HR5.out.free 4
  go_wp2
  clear v0 v1 v2 v3 v4 r0 r1 r2 r3 r4 f0 f1 f2 f3 f4
  obtain ⟨s0, s1, s2, s3, s4⟩ := HS6.out.cells
  exact bodyPost_ret (v := vV x') (by simp [results, Try.results38, go_sem, s0, s1, s2, s3, s4]) rfl ⟨x', rfl, bmod HB5.out M6.out (by rw [Hp.out]; omega), by rw [Hp.out]; exact HT6.out⟩
end Go.Proofs.Ytnbhjehaecifcaa
