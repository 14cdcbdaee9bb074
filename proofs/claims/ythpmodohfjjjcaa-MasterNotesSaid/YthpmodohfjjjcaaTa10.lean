/- A table as it lies in memory: its queues, its lasts. -/
import Derived.Test.YthpmodohfjjjcaaTg10
import Derived.Test.YthpmodohfjjjcaaPq9
namespace Go.Proofs.Ythpmodohfjjjcaa
open Go.RowKit

/-- A table: its epoch, how many resources there are, of each who has it and who waits, and its lasts. -/
structure Ta where
  ep : Int
  sz : Int
  h : Nat → List Cl
  ws : Nat → List Cl
  last : Nat → Nat → Int
def Ta.setQ (t : Ta) (r : Nat) (h ws : List Cl) : Ta := ⟨t.ep, t.sz, fun j => if j = r then h else t.h j, fun j => if j = r then ws else t.ws j, t.last⟩
def Ta.mark (t : Ta) (r j : Nat) (v : Int) : Ta := ⟨t.ep, t.sz, t.h, t.ws, fun i k => if i = r ∧ k = j then v else t.last i k⟩
/-- A list of claims whose slice lies at a place of the table. -/
structure Sl (w : World) (b o : Nat) (l : List Cl) : Prop where
  is : ∃ A n c, w.cell? ⟨b, o, none⟩ = some (.slice A n c) ∧ IsC w A n l ∧ ∀ g, 0 < n → blk (.slice A n c) = some g → g ≠ b
/-- The blocks of a table's lists. -/
def Tb (w : World) (b g : Nat) : Prop := ∃ o A n c, w.cell? ⟨b, o, none⟩ = some (.slice A n c) ∧ 0 < n ∧ blk (.slice A n c) = some g
/-- A table in block b. -/
structure IsT (w : World) (b : Nat) (t : Ta) : Prop where
  c0 : w.cell? ⟨b, 0, none⟩ = some (.int .i64 t.ep)
  c1 : w.cell? ⟨b, 1, none⟩ = some (.int .i64 t.sz)
  qh : ∀ r, r < 16 → Sl w b (2 + r * 2) (t.h r)
  qw : ∀ r, r < 16 → Sl w b (2 + r * 2 + 1) (t.ws r)
  ls : ∀ r j, r < 16 → j < 8 → w.cell? ⟨b, 34 + r * 8 + j, none⟩ = some (.int .i64 (t.last r j))
  free : ∀ o, o < 162 → w.frozen? ⟨b, o, none⟩ = false
  ok : ∀ r, r < 16 → OkQ (t.h r) (t.ws r)
  sz : t.sz ≤ 16
theorem IsC.later' {S : Nat → Prop} {w w' : World} {A : Option Addr} {n c : Nat} {l : List Cl} (h : IsC w A n l) (m : Mod S w w') (hs : ∀ g, 0 < n → blk (.slice A n c) = some g → ¬ S g) : IsC w' A n l :=
  ⟨h.length, h.max, h.wf, fun h0 => by
    obtain ⟨g, off, e, hg, hc⟩ := h.cells h0
    have hn : ¬ S g := hs g h0 (by rw [e]; rfl)
    refine ⟨g, off, e, Nat.lt_of_lt_of_le hg m.size, fun i x hi => ?_⟩
    obtain ⟨c0, c1⟩ := hc i x hi
    exact ⟨(m.cell (p := ⟨g, off + i * 2, none⟩) hg hn).trans c0, (m.cell (p := ⟨g, off + i * 2 + 1, none⟩) hg hn).trans c1⟩⟩
theorem IsT.lt {w : World} {b : Nat} {t : Ta} (x : IsT w b t) : b < w.heap.size := lt_of_cell x.c0
theorem Sl.later {S : Nat → Prop} {w w' : World} {b o : Nat} {l : List Cl} (x : Sl w b o l) (m : Mod S w w') (hb : b < w.heap.size) (hs : ¬ S b) (hq : ∀ g, Tb w b g → ¬ S g) : Sl w' b o l := by
  obtain ⟨A, n, c, e, h1, h2⟩ := x.is
  exact ⟨A, n, c, (m.cell (p := ⟨b, o, none⟩) hb hs).trans e, h1.later' m (fun g h0 hg => hq g ⟨o, A, n, c, e, h0, hg⟩), h2⟩
theorem IsT.later {S : Nat → Prop} {w w' : World} {b : Nat} {t : Ta} (x : IsT w b t) (m : Mod S w w') (hs : ¬ S b) (hq : ∀ g, Tb w b g → ¬ S g) : IsT w' b t :=
  ⟨(m.cell (p := ⟨b, 0, none⟩) x.lt hs).trans x.c0, (m.cell (p := ⟨b, 1, none⟩) x.lt hs).trans x.c1, fun r hr => (x.qh r hr).later m x.lt hs hq, fun r hr => (x.qw r hr).later m x.lt hs hq,
    fun r j hr hj => (m.cell (p := ⟨b, 34 + r * 8 + j, none⟩) x.lt hs).trans (x.ls r j hr hj), fun o ho => (m.frozen (p := ⟨b, o, none⟩) x.lt hs).trans (x.free o ho), x.ok, x.sz⟩
theorem IsT.below {w w' : World} {b : Nat} {t : Ta} (x : IsT w b t) (m : Below w.heap.size w w') : IsT w' b t := x.later (Mod.of_below (S := fun _ => False) m) id (fun _ _ => id)
/-- The blocks of a table's lists do not change where the table does not. -/
theorem Tb.back {S : Nat → Prop} {w w' : World} {b g : Nat} (x : Tb w' b g) (m : Mod S w w') (hb : b < w.heap.size) (hs : ¬ S b) : Tb w b g := by
  obtain ⟨o, A, n, c, e, h0, hg⟩ := x
  exact ⟨o, A, n, c, (m.cell (p := ⟨b, o, none⟩) hb hs).symm.trans e, h0, hg⟩
/-- They were there. -/
def Tlt (w : World) (b : Nat) : Prop := ∀ g, Tb w b g → g < w.heap.size ∧ g ≠ b
theorem tlt_back {S : Nat → Prop} {w w' : World} {b : Nat} (h : Tlt w b) (m : Mod S w w') (hb : b < w.heap.size) (hs : ¬ S b) : Tlt w' b := fun g hg => by
  have := h g (hg.back m hb hs)
  exact ⟨Nat.lt_of_lt_of_le this.1 m.size, this.2⟩
/-- A last, stored. -/
theorem IsT.mark {w : World} {b : Nat} {t : Ta} (x : IsT w b t) {r j : Nat} (hr : r < 16) (hj : j < 8) (v : Int) : IsT (w.setCell ⟨b, 34 + r * 8 + j, none⟩ (.int .i64 v)) b (t.mark r j v) := by
  have sl : ∀ o l, o < 34 → Sl w b o l → Sl (w.setCell ⟨b, 34 + r * 8 + j, none⟩ (.int .i64 v)) b o l := fun o l ho s => by
    obtain ⟨A, n, c, e, h1, h2⟩ := s.is
    refine ⟨A, n, c, set_other (by simp <;> omega) e, h1.later' (c := c) ((Mod.refl (· = b) w).set1 _) (fun g h0 hg e2 => h2 g h0 hg e2), h2⟩
  refine ⟨set_other (by simp) x.c0, set_other (by simp <;> omega) x.c1, fun i hi => sl _ _ (by omega) (x.qh i hi), fun i hi => sl _ _ (by omega) (x.qw i hi), fun i k hi hk => ?_, fun o ho => set_frozen (x.free o ho), x.ok, x.sz⟩
  by_cases e : i = r ∧ k = j
  · obtain ⟨rfl, rfl⟩ := e
    simp only [Ta.mark, and_self, if_true]
    exact set_same (x.ls i k hi hk)
  · simp only [Ta.mark, if_neg e]
    exact set_other (by simp <;> omega) (x.ls i k hi hk)
theorem tlt_mark {w : World} {b : Nat} (h : Tlt w b) (o : Nat) (v : Int) (hi : ∃ u, w.cell? ⟨b, o, none⟩ = some (.int .i64 u)) : Tlt (w.setCell ⟨b, o, none⟩ (.int .i64 v)) b := fun g hg => by
  obtain ⟨o', A, n, c, e, h0, hg⟩ := hg
  obtain ⟨u, hu⟩ := hi
  by_cases e2 : o' = o
  · subst e2
    rw [set_same hu] at e
    cases e
  · have h1 : w.cell? ⟨b, o', none⟩ = some (.slice A n c) := by
      rw [World.cell?_setCell_other _ _ _ _ (fun e3 => by injection e3 with _ e3; exact e2 e3.symm)] at e
      exact e
    have := h g ⟨o', A, n, c, h1, h0, hg⟩
    exact ⟨by simpa [World.setCell] using this.1, this.2⟩
/-- A queue, stored. -/
theorem IsT.setQ {w : World} {b : Nat} {t : Ta} (x : IsT w b t) {r : Nat} (hr : r < 16) {A : Option Addr} {n c : Nat} {A2 : Option Addr} {n2 c2 : Nat} {h ws : List Cl} (h1 : IsC w A n h) (h2 : IsC w A2 n2 ws)
    (a1 : ∀ g, 0 < n → blk (.slice A n c) = some g → g ≠ b) (a2 : ∀ g, 0 < n2 → blk (.slice A2 n2 c2) = some g → g ≠ b) (ok : OkQ h ws) :
    IsT ((w.setCell ⟨b, 2 + r * 2, none⟩ (.slice A n c)).setCell ⟨b, 2 + r * 2 + 1, none⟩ (.slice A2 n2 c2)) b (t.setQ r h ws) := by
  have m : Mod (· = b) w ((w.setCell ⟨b, 2 + r * 2, none⟩ (.slice A n c)).setCell ⟨b, 2 + r * 2 + 1, none⟩ (.slice A2 n2 c2)) := ((Mod.refl _ w).set1 _).set1 _
  have keep : ∀ B k d l, IsC w B k l → (∀ g, 0 < k → blk (.slice B k d) = some g → g ≠ b) → IsC ((w.setCell ⟨b, 2 + r * 2, none⟩ (.slice A n c)).setCell ⟨b, 2 + r * 2 + 1, none⟩ (.slice A2 n2 c2)) B k l := fun B k d l hc ha => hc.later' (c := d) m (fun g h0 hg e => ha g h0 hg e)
  refine ⟨set_other (by simp) (set_other (by simp) x.c0), set_other (by simp <;> omega) (set_other (by simp <;> omega) x.c1), fun i hi => ?_, fun i hi => ?_, fun i k hi hk => set_other (by simp <;> omega) (set_other (by simp <;> omega) (x.ls i k hi hk)), fun o ho => set_frozen (set_frozen (x.free o ho)), fun i hi => ?_, x.sz⟩
  · by_cases e : i = r
    · subst e
      obtain ⟨B, k, d, e0, _, _⟩ := (x.qh i hi).is
      simp only [Ta.setQ, if_true]
      exact ⟨A, n, c, set_other (by simp) (set_same e0), keep A n c h h1 a1, a1⟩
    · obtain ⟨B, k, d, e0, e1, e2⟩ := (x.qh i hi).is
      simp only [Ta.setQ, if_neg e]
      exact ⟨B, k, d, set_other (by simp <;> omega) (set_other (by simp <;> omega) e0), keep B k d _ e1 e2, e2⟩
  · by_cases e : i = r
    · subst e
      obtain ⟨B, k, d, e0, _, _⟩ := (x.qw i hi).is
      simp only [Ta.setQ, if_true]
      exact ⟨A2, n2, c2, set_same (set_other (by simp) e0), keep A2 n2 c2 ws h2 a2, a2⟩
    · obtain ⟨B, k, d, e0, e1, e2⟩ := (x.qw i hi).is
      simp only [Ta.setQ, if_neg e]
      exact ⟨B, k, d, set_other (by simp <;> omega) (set_other (by simp <;> omega) e0), keep B k d _ e1 e2, e2⟩
  · by_cases e : i = r
    · simp only [Ta.setQ, if_pos e]; exact ok
    · simp only [Ta.setQ, if_neg e]; exact x.ok i hi
theorem tlt_setQ {w : World} {b o : Nat} (h : Tlt w b) {A : Option Addr} {n c : Nat} {A2 : Option Addr} {n2 c2 : Nat} {l l2 : List Cl} (h1 : IsC w A n l) (h2 : IsC w A2 n2 l2)
    (a1 : ∀ g, 0 < n → blk (.slice A n c) = some g → g ≠ b) (a2 : ∀ g, 0 < n2 → blk (.slice A2 n2 c2) = some g → g ≠ b) (s1 : (w.cell? ⟨b, o, none⟩).isSome = true) (s2 : (w.cell? ⟨b, o + 1, none⟩).isSome = true) :
    Tlt ((w.setCell ⟨b, o, none⟩ (.slice A n c)).setCell ⟨b, o + 1, none⟩ (.slice A2 n2 c2)) b := fun g hg => by
  have hsz : ((w.setCell ⟨b, o, none⟩ (.slice A n c)).setCell ⟨b, o + 1, none⟩ (.slice A2 n2 c2)).heap.size = w.heap.size := by simp [World.setCell]
  rw [hsz]
  obtain ⟨o', B, k, d, e, h0, hg⟩ := hg
  obtain ⟨u1, hu1⟩ := Option.isSome_iff_exists.1 s1
  obtain ⟨u2, hu2⟩ := Option.isSome_iff_exists.1 s2
  by_cases e2 : o' = o + 1
  · subst e2
    rw [set_same (set_other (by simp) hu2)] at e
    injection e with e
    injection e with e3 e4 e5
    subst e3 e4 e5
    obtain ⟨g', off, e6, hlt, _⟩ := h2.cells h0
    have : g = g' := by rw [e6] at hg; simp [blk] at hg; exact hg.symm
    exact ⟨this ▸ hlt, a2 g h0 hg⟩
  · by_cases e1 : o' = o
    · subst e1
      rw [set_other (by simp) (set_same hu1)] at e
      injection e with e
      injection e with e3 e4 e5
      subst e3 e4 e5
      obtain ⟨g', off, e6, hlt, _⟩ := h1.cells h0
      have : g = g' := by rw [e6] at hg; simp [blk] at hg; exact hg.symm
      exact ⟨this ▸ hlt, a1 g h0 hg⟩
    · rw [World.cell?_setCell_other _ _ _ _ (fun e3 => by injection e3 with _ e3; exact e2 e3.symm), World.cell?_setCell_other _ _ _ _ (fun e3 => by injection e3 with _ e3; exact e1 e3.symm)] at e
      exact h g ⟨o', B, k, d, e, h0, hg⟩
/-! ### made -/
def taC (ep sz : Int) : Array Value := #[.int .i64 ep, .int .i64 sz, .slice none 0 0, .slice none 0 0, .slice none 0 0, .slice none 0 0, .slice none 0 0, .slice none 0 0, .slice none 0 0, .slice none 0 0, .slice none 0 0, .slice none 0 0, .slice none 0 0, .slice none 0 0, .slice none 0 0, .slice none 0 0, .slice none 0 0, .slice none 0 0, .slice none 0 0, .slice none 0 0, .slice none 0 0, .slice none 0 0, .slice none 0 0, .slice none 0 0, .slice none 0 0, .slice none 0 0, .slice none 0 0, .slice none 0 0, .slice none 0 0, .slice none 0 0, .slice none 0 0, .slice none 0 0, .slice none 0 0, .slice none 0 0, .int .i64 0, .int .i64 0, .int .i64 0, .int .i64 0, .int .i64 0, .int .i64 0, .int .i64 0, .int .i64 0, .int .i64 0, .int .i64 0, .int .i64 0, .int .i64 0, .int .i64 0, .int .i64 0, .int .i64 0, .int .i64 0, .int .i64 0, .int .i64 0, .int .i64 0, .int .i64 0, .int .i64 0, .int .i64 0, .int .i64 0, .int .i64 0, .int .i64 0, .int .i64 0, .int .i64 0, .int .i64 0, .int .i64 0, .int .i64 0, .int .i64 0, .int .i64 0, .int .i64 0, .int .i64 0, .int .i64 0, .int .i64 0, .int .i64 0, .int .i64 0, .int .i64 0, .int .i64 0, .int .i64 0, .int .i64 0, .int .i64 0, .int .i64 0, .int .i64 0, .int .i64 0, .int .i64 0, .int .i64 0, .int .i64 0, .int .i64 0, .int .i64 0, .int .i64 0, .int .i64 0, .int .i64 0, .int .i64 0, .int .i64 0, .int .i64 0, .int .i64 0, .int .i64 0, .int .i64 0, .int .i64 0, .int .i64 0, .int .i64 0, .int .i64 0, .int .i64 0, .int .i64 0, .int .i64 0, .int .i64 0, .int .i64 0, .int .i64 0, .int .i64 0, .int .i64 0, .int .i64 0, .int .i64 0, .int .i64 0, .int .i64 0, .int .i64 0, .int .i64 0, .int .i64 0, .int .i64 0, .int .i64 0, .int .i64 0, .int .i64 0, .int .i64 0, .int .i64 0, .int .i64 0, .int .i64 0, .int .i64 0, .int .i64 0, .int .i64 0, .int .i64 0, .int .i64 0, .int .i64 0, .int .i64 0, .int .i64 0, .int .i64 0, .int .i64 0, .int .i64 0, .int .i64 0, .int .i64 0, .int .i64 0, .int .i64 0, .int .i64 0, .int .i64 0, .int .i64 0, .int .i64 0, .int .i64 0, .int .i64 0, .int .i64 0, .int .i64 0, .int .i64 0, .int .i64 0, .int .i64 0, .int .i64 0, .int .i64 0, .int .i64 0, .int .i64 0, .int .i64 0, .int .i64 0, .int .i64 0, .int .i64 0, .int .i64 0, .int .i64 0, .int .i64 0, .int .i64 0, .int .i64 0, .int .i64 0, .int .i64 0]
theorem taC_eq (ep sz : Int) : taC ep sz = (#[.int .i64 ep, .int .i64 sz] ++ Array.replicate 32 (.slice none 0 0)) ++ Array.replicate 128 (.int .i64 0) := by kernel_rfl
def Ta.new (ep sz : Int) : Ta := ⟨ep, sz, fun _ => [], fun _ => [], fun _ _ => 0⟩
set_option maxRecDepth 100000 in
theorem taC_q (ep sz : Int) {o : Nat} (h : 2 ≤ o) (h2 : o < 34) : (taC ep sz)[o]? = some (.slice none 0 0) := by
  rw [taC_eq, Array.getElem?_append_left (by simp <;> omega), Array.getElem?_append_right (by simpa using h), Array.getElem?_replicate, if_pos (by simp <;> omega)]
set_option maxRecDepth 100000 in
theorem taC_l (ep sz : Int) {o : Nat} (h : 34 ≤ o) (h2 : o < 162) : (taC ep sz)[o]? = some (.int .i64 0) := by
  rw [taC_eq, Array.getElem?_append_right (by simpa using h), Array.getElem?_replicate, if_pos (by simp <;> omega)]
theorem IsC.nul (w : World) : IsC w none 0 [] := ⟨rfl, Nat.zero_le _, by simp, fun h => by omega⟩
set_option maxRecDepth 100000 in
theorem isT_new (w : World) (ep sz : Int) (ty : TypeId) (hs : sz ≤ 16) : IsT (w.alloc (.cells (taC ep sz) ty)) w.heap.size (Ta.new ep sz) ∧ Tlt (w.alloc (.cells (taC ep sz) ty)) w.heap.size := by
  have q : ∀ o, 2 ≤ o → o < 34 → Sl (w.alloc (.cells (taC ep sz) ty)) w.heap.size o [] := fun o h1 h2 =>
    ⟨none, 0, 0, by rw [World.cell?_alloc_mark]; exact taC_q ep sz h1 h2, IsC.nul _, fun g h0 => by omega⟩
  refine ⟨⟨?_, ?_, fun r hr => q _ (by omega) (by omega), fun r hr => q _ (by omega) (by omega), fun r j hr hj => ?_, fun o ho => ?_, fun r _ => ok_empty, hs⟩, fun g hg => ?_⟩
  · rw [World.cell?_alloc_mark]; rfl
  · rw [World.cell?_alloc_mark]; rfl
  · rw [World.cell?_alloc_mark]; exact taC_l _ _ (by omega) (by omega)
  · rw [World.frozen?_alloc_mark]; simp
  · obtain ⟨o, A, n, c, e, h0, _⟩ := hg
    rw [World.cell?_alloc_mark] at e
    rcases Nat.lt_or_ge o 2 with h1 | h1
    · exfalso
      rcases (show o = 0 ∨ o = 1 by omega) with rfl | rfl
      · rw [show (taC ep sz)[0]? = some (.int .i64 ep) from rfl] at e
        cases e
      · rw [show (taC ep sz)[1]? = some (.int .i64 sz) from rfl] at e
        cases e
    · exfalso
      rcases Nat.lt_or_ge o 34 with h2 | h2
      · rw [taC_q ep sz h1 h2] at e
        injection e with e; injection e with e1 e2; omega
      · rcases Nat.lt_or_ge o 162 with h3 | h3
        · rw [taC_l ep sz h2 h3] at e; cases e
        · rw [taC_eq, Array.getElem?_eq_none (by simp <;> omega)] at e; cases e
set_option maxRecDepth 100000 in
theorem New_any (w : World) (ep z : Int) :
    Calls Try.prog 13 #[.int .i64 ep, .int .i64 z] w fun e w' => ∃ b, e = .returned (.pointer (some ⟨b, 0, none⟩)) ∧ IsT w' b (Ta.new ep (keptM z)) ∧ Tlt w' b ∧ Below w.heap.size w w' ∧ w.heap.size ≤ b := by
  obtain ⟨k, Hk⟩ : ∃ k, Hid (keptM z = k) := ⟨_, Lib.hid rfl⟩
  have Hs : Hid (k ≤ 16) := Lib.hid (by rw [← Hk.out]; unfold keptM; omega)
  rw [Hk.out]
  go_enter Try.func13, Try.ntmps13
  go_wp2_with fail
  refine (kept_any _ _).mono ?_
  rw [Hk.out]
  rintro e w1 ⟨rfl, rfl⟩
  go_wp2
  go_ret
  exact ⟨_, rfl, (isT_new w ep k 85 Hs.out).1, (isT_new w ep k 85 Hs.out).2, balloc (Below.refl _ _) _, Nat.le_refl _⟩
end Go.Proofs.Ythpmodohfjjjcaa
