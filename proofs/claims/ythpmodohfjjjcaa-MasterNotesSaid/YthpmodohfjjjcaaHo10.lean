/- A holder as it lies in memory: its locks, what is asked of them, what is said of them. -/
import Derived.Test.YthpmodohfjjjcaaNt10
import Derived.Laws.ResultCell
namespace Go.Proofs.Ythpmodohfjjjcaa
open Go.RowKit

/-- What a node knows of a resource. -/
structure Lk where
  has : Int
  keeps : Int
  wants : Int
  count : Int
def lk0 : Lk := ⟨0, 0, 0, 0⟩
/-- A holder: its epoch, how many resources there are, its locks. -/
structure Ho where
  ep : Int
  sz : Int
  lk : Nat → Lk
theorem drewB (w : World) : Below w.heap.size w w.drew := (Below.refl _ _).drew
theorem results_cell1 {fn : Func} {p : Tmp} {ty : TypeId} (h : fn.results = #[.cell p ty]) (tmps : Array Value) (P : Program) (w : World) :
    (results fn tmps).run P w = ((asAddr (tmps.getD p undef)).run P w).andThen fun a w₁ => (loadVar ty a).run P w₁ := by
  simp only [results, h]
  simp [Sem.run_bind, Result.andThen]
def Ho.put (h : Ho) (r : Nat) (l : Lk) : Ho := ⟨h.ep, h.sz, fun j => if j = r then l else h.lk j⟩
theorem Ho.put_same (h : Ho) (r : Nat) : h.put r (h.lk r) = h := by
  obtain ⟨e, s, k⟩ := h
  simp only [Ho.put, Ho.mk.injEq, true_and]
  funext j
  by_cases e : j = r <;> simp [e]
theorem Ho.put_put (h : Ho) (r : Nat) (l m : Lk) : (h.put r l).put r m = h.put r m := by
  obtain ⟨e, s, k⟩ := h
  simp only [Ho.put, Ho.mk.injEq, true_and]
  funext j
  by_cases e : j = r <;> simp [e]
theorem Ho.put_at (h : Ho) (r : Nat) (l : Lk) : (h.put r l).lk r = l := by simp [Ho.put]
/-- A holder in block b. -/
structure IsH (w : World) (b : Nat) (h : Ho) : Prop where
  c0 : w.cell? ⟨b, 0, none⟩ = some (.int .i64 h.ep)
  c1 : w.cell? ⟨b, 1, none⟩ = some (.int .i64 h.sz)
  k0 : ∀ r, r < 16 → w.cell? ⟨b, 2 + r * 4, none⟩ = some (.int .i64 (h.lk r).has)
  k1 : ∀ r, r < 16 → w.cell? ⟨b, 2 + r * 4 + 1, none⟩ = some (.int .i64 (h.lk r).keeps)
  k2 : ∀ r, r < 16 → w.cell? ⟨b, 2 + r * 4 + 2, none⟩ = some (.int .i64 (h.lk r).wants)
  k3 : ∀ r, r < 16 → w.cell? ⟨b, 2 + r * 4 + 3, none⟩ = some (.int .i64 (h.lk r).count)
  free : ∀ o, o < 66 → w.frozen? ⟨b, o, none⟩ = false
  sz : h.sz ≤ 16
theorem IsH.lt {w : World} {b : Nat} {h : Ho} (x : IsH w b h) : b < w.heap.size := lt_of_cell x.c0
theorem IsH.later {S : Nat → Prop} {w w' : World} {b : Nat} {h : Ho} (x : IsH w b h) (m : Mod S w w') (hs : ¬ S b) : IsH w' b h :=
  ⟨(m.cell (p := ⟨b, 0, none⟩) x.lt hs).trans x.c0, (m.cell (p := ⟨b, 1, none⟩) x.lt hs).trans x.c1, fun r hr => (m.cell (p := ⟨b, 2 + r * 4, none⟩) x.lt hs).trans (x.k0 r hr), fun r hr => (m.cell (p := ⟨b, 2 + r * 4 + 1, none⟩) x.lt hs).trans (x.k1 r hr),
    fun r hr => (m.cell (p := ⟨b, 2 + r * 4 + 2, none⟩) x.lt hs).trans (x.k2 r hr), fun r hr => (m.cell (p := ⟨b, 2 + r * 4 + 3, none⟩) x.lt hs).trans (x.k3 r hr), fun o ho => (m.frozen (p := ⟨b, o, none⟩) x.lt hs).trans (x.free o ho), x.sz⟩
theorem IsH.below {w w' : World} {b : Nat} {h : Ho} (x : IsH w b h) (m : Below w.heap.size w w') : IsH w' b h := x.later (Mod.of_below (S := fun _ => False) m) id
theorem IsH.set0 {w : World} {b : Nat} {h : Ho} (x : IsH w b h) {r : Nat} (hr : r < 16) (v : Int) : IsH (w.setCell ⟨b, 2 + r * 4, none⟩ (.int .i64 v)) b (h.put r ⟨v, (h.lk r).keeps, (h.lk r).wants, (h.lk r).count⟩) := by
  refine ⟨set_other (by simp) x.c0, set_other (by simp; try omega) x.c1, fun j hj => ?_, fun j hj => ?_, fun j hj => ?_, fun j hj => ?_, fun o ho => set_frozen (x.free o ho), x.sz⟩
  · by_cases e : j = r
    · subst e; simp only [Ho.put, if_pos]; exact set_same (x.k0 j hj)
    · simp only [Ho.put, if_neg e]; exact set_other (by simp; try omega) (x.k0 j hj)
  · by_cases e : j = r
    · subst e; simp only [Ho.put, if_pos]; exact set_other (by simp; try omega) (x.k1 j hj)
    · simp only [Ho.put, if_neg e]; exact set_other (by simp; try omega) (x.k1 j hj)
  · by_cases e : j = r
    · subst e; simp only [Ho.put, if_pos]; exact set_other (by simp; try omega) (x.k2 j hj)
    · simp only [Ho.put, if_neg e]; exact set_other (by simp; try omega) (x.k2 j hj)
  · by_cases e : j = r
    · subst e; simp only [Ho.put, if_pos]; exact set_other (by simp; try omega) (x.k3 j hj)
    · simp only [Ho.put, if_neg e]; exact set_other (by simp; try omega) (x.k3 j hj)
theorem IsH.set1 {w : World} {b : Nat} {h : Ho} (x : IsH w b h) {r : Nat} (hr : r < 16) (v : Int) : IsH (w.setCell ⟨b, 2 + r * 4 + 1, none⟩ (.int .i64 v)) b (h.put r ⟨(h.lk r).has, v, (h.lk r).wants, (h.lk r).count⟩) := by
  refine ⟨set_other (by simp) x.c0, set_other (by simp; try omega) x.c1, fun j hj => ?_, fun j hj => ?_, fun j hj => ?_, fun j hj => ?_, fun o ho => set_frozen (x.free o ho), x.sz⟩
  · by_cases e : j = r
    · subst e; simp only [Ho.put, if_pos]; exact set_other (by simp; try omega) (x.k0 j hj)
    · simp only [Ho.put, if_neg e]; exact set_other (by simp; try omega) (x.k0 j hj)
  · by_cases e : j = r
    · subst e; simp only [Ho.put, if_pos]; exact set_same (x.k1 j hj)
    · simp only [Ho.put, if_neg e]; exact set_other (by simp; try omega) (x.k1 j hj)
  · by_cases e : j = r
    · subst e; simp only [Ho.put, if_pos]; exact set_other (by simp; try omega) (x.k2 j hj)
    · simp only [Ho.put, if_neg e]; exact set_other (by simp; try omega) (x.k2 j hj)
  · by_cases e : j = r
    · subst e; simp only [Ho.put, if_pos]; exact set_other (by simp; try omega) (x.k3 j hj)
    · simp only [Ho.put, if_neg e]; exact set_other (by simp; try omega) (x.k3 j hj)
theorem IsH.set2 {w : World} {b : Nat} {h : Ho} (x : IsH w b h) {r : Nat} (hr : r < 16) (v : Int) : IsH (w.setCell ⟨b, 2 + r * 4 + 2, none⟩ (.int .i64 v)) b (h.put r ⟨(h.lk r).has, (h.lk r).keeps, v, (h.lk r).count⟩) := by
  refine ⟨set_other (by simp) x.c0, set_other (by simp; try omega) x.c1, fun j hj => ?_, fun j hj => ?_, fun j hj => ?_, fun j hj => ?_, fun o ho => set_frozen (x.free o ho), x.sz⟩
  · by_cases e : j = r
    · subst e; simp only [Ho.put, if_pos]; exact set_other (by simp; try omega) (x.k0 j hj)
    · simp only [Ho.put, if_neg e]; exact set_other (by simp; try omega) (x.k0 j hj)
  · by_cases e : j = r
    · subst e; simp only [Ho.put, if_pos]; exact set_other (by simp; try omega) (x.k1 j hj)
    · simp only [Ho.put, if_neg e]; exact set_other (by simp; try omega) (x.k1 j hj)
  · by_cases e : j = r
    · subst e; simp only [Ho.put, if_pos]; exact set_same (x.k2 j hj)
    · simp only [Ho.put, if_neg e]; exact set_other (by simp; try omega) (x.k2 j hj)
  · by_cases e : j = r
    · subst e; simp only [Ho.put, if_pos]; exact set_other (by simp; try omega) (x.k3 j hj)
    · simp only [Ho.put, if_neg e]; exact set_other (by simp; try omega) (x.k3 j hj)
theorem IsH.set3 {w : World} {b : Nat} {h : Ho} (x : IsH w b h) {r : Nat} (hr : r < 16) (v : Int) : IsH (w.setCell ⟨b, 2 + r * 4 + 3, none⟩ (.int .i64 v)) b (h.put r ⟨(h.lk r).has, (h.lk r).keeps, (h.lk r).wants, v⟩) := by
  refine ⟨set_other (by simp) x.c0, set_other (by simp; try omega) x.c1, fun j hj => ?_, fun j hj => ?_, fun j hj => ?_, fun j hj => ?_, fun o ho => set_frozen (x.free o ho), x.sz⟩
  · by_cases e : j = r
    · subst e; simp only [Ho.put, if_pos]; exact set_other (by simp; try omega) (x.k0 j hj)
    · simp only [Ho.put, if_neg e]; exact set_other (by simp; try omega) (x.k0 j hj)
  · by_cases e : j = r
    · subst e; simp only [Ho.put, if_pos]; exact set_other (by simp; try omega) (x.k1 j hj)
    · simp only [Ho.put, if_neg e]; exact set_other (by simp; try omega) (x.k1 j hj)
  · by_cases e : j = r
    · subst e; simp only [Ho.put, if_pos]; exact set_other (by simp; try omega) (x.k2 j hj)
    · simp only [Ho.put, if_neg e]; exact set_other (by simp; try omega) (x.k2 j hj)
  · by_cases e : j = r
    · subst e; simp only [Ho.put, if_pos]; exact set_same (x.k3 j hj)
    · simp only [Ho.put, if_neg e]; exact set_other (by simp; try omega) (x.k3 j hj)
/-! ### made -/
def hoC (ep sz : Int) : Array Value := #[.int .i64 ep, .int .i64 sz, .int .i64 0, .int .i64 0, .int .i64 0, .int .i64 0, .int .i64 0, .int .i64 0, .int .i64 0, .int .i64 0, .int .i64 0, .int .i64 0, .int .i64 0, .int .i64 0, .int .i64 0, .int .i64 0, .int .i64 0, .int .i64 0, .int .i64 0, .int .i64 0, .int .i64 0, .int .i64 0, .int .i64 0, .int .i64 0, .int .i64 0, .int .i64 0, .int .i64 0, .int .i64 0, .int .i64 0, .int .i64 0, .int .i64 0, .int .i64 0, .int .i64 0, .int .i64 0, .int .i64 0, .int .i64 0, .int .i64 0, .int .i64 0, .int .i64 0, .int .i64 0, .int .i64 0, .int .i64 0, .int .i64 0, .int .i64 0, .int .i64 0, .int .i64 0, .int .i64 0, .int .i64 0, .int .i64 0, .int .i64 0, .int .i64 0, .int .i64 0, .int .i64 0, .int .i64 0, .int .i64 0, .int .i64 0, .int .i64 0, .int .i64 0, .int .i64 0, .int .i64 0, .int .i64 0, .int .i64 0, .int .i64 0, .int .i64 0, .int .i64 0, .int .i64 0]
def Ho.new (ep sz : Int) : Ho := ⟨ep, sz, fun _ => lk0⟩
theorem hoC_at (ep sz : Int) {o : Nat} (h : 2 ≤ o) (h2 : o < 66) : (hoC ep sz)[o]? = some (.int .i64 0) := by
  have e : hoC ep sz = #[.int .i64 ep, .int .i64 sz] ++ Array.replicate 64 (.int .i64 0) := by kernel_rfl
  rw [e]
  rw [Array.getElem?_append_right (by simpa using h), Array.getElem?_replicate, if_pos (by simp; omega)]
theorem isH_new (w : World) (ep sz : Int) (t : TypeId) (hs : sz ≤ 16) : IsH (w.alloc (.cells (hoC ep sz) t)) w.heap.size (Ho.new ep sz) := by
  refine ⟨?_, ?_, fun r hr => ?_, fun r hr => ?_, fun r hr => ?_, fun r hr => ?_, fun o ho => ?_, hs⟩
  · rw [World.cell?_alloc_mark]; rfl
  · rw [World.cell?_alloc_mark]; rfl
  · rw [World.cell?_alloc_mark]; exact hoC_at _ _ (by omega) (by omega)
  · rw [World.cell?_alloc_mark]; exact hoC_at _ _ (by omega) (by omega)
  · rw [World.cell?_alloc_mark]; exact hoC_at _ _ (by omega) (by omega)
  · rw [World.cell?_alloc_mark]; exact hoC_at _ _ (by omega) (by omega)
  · rw [World.frozen?_alloc_mark]; simp
/-! ### lock -/
theorem amg_cases (z sz : Int) (h : sz ≤ 16) : (∃ r : Nat, r < 16 ∧ z = (r : Int) ∧ amgB z sz = true) ∨ amgB z sz = false := by
  cases hq : amgB z sz with
  | false => exact .inr rfl
  | true =>
    have h2 : 0 ≤ z ∧ z < sz := by simpa [amgB] using hq
    exact .inl ⟨z.toNat, by omega, by omega, rfl⟩
set_option maxRecDepth 100000 in
theorem lock_nil (w : World) (z : Int) :
    Calls Try.prog 41 #[.pointer none, .int .i64 z] w fun e w' => e = .returned (.pointer none) ∧ w = w' := by
  go_enter Try.func41, Try.ntmps41
  go_wp2
  go_ret
  exact ⟨rfl, rfl⟩
set_option maxRecDepth 100000 in
theorem lock_out {w : World} {b : Nat} {h : Ho} (x : IsH w b h) (z : Int) (hz : amgB z h.sz = false) :
    Calls Try.prog 41 #[.pointer (some ⟨b, 0, none⟩), .int .i64 z] w fun e w' => e = .returned (.pointer none) ∧ w = w' := by
  have c1 := x.c1
  have Hz := Lib.hid hz
  clear x hz
  go_enter Try.func41, Try.ntmps41
  go_wp2_with fail
  refine (among_any _ _ _).mono ?_
  rw [Hz.out]
  rintro e w1 ⟨rfl, rfl⟩
  go_wp2
  go_ret
  exact ⟨rfl, rfl⟩
set_option maxRecDepth 100000 in
theorem lock_in {w : World} {b : Nat} {h : Ho} (x : IsH w b h) {r : Nat} (hr : r < 16) (hz : amgB (r : Int) h.sz = true) :
    Calls Try.prog 41 #[.pointer (some ⟨b, 0, none⟩), .int .i64 (r : Int)] w fun e w' => e = .returned (.pointer (some ⟨b, 2 + r * 4, none⟩)) ∧ w = w' := by
  have c1 := x.c1
  have Hz := Lib.hid hz
  have hr0 : (0 : Int) ≤ (r : Int) := by omega
  have hr1 : (r : Int) < 16 := by omega
  clear x hz
  go_enter Try.func41, Try.ntmps41
  go_wp2_with fail
  refine (among_any _ _ _).mono ?_
  rw [Hz.out]
  rintro e w1 ⟨rfl, rfl⟩
  go_wp2
  go_ret
  exact ⟨rfl, rfl⟩
/-! ### look -/
def lkV (l : Lk) : Value := .agg #[.int .i64 l.has, .int .i64 l.keeps, .int .i64 l.wants, .int .i64 l.count]
@[go_sem] theorem lkV_def (l : Lk) : lkV l = .agg #[.int .i64 l.has, .int .i64 l.keeps, .int .i64 l.wants, .int .i64 l.count] := rfl
def Ho.at (h : Ho) (z : Int) : Lk := if amgB z h.sz then h.lk z.toNat else lk0
theorem Ho.at_in (h : Ho) {r : Nat} (hz : amgB (r : Int) h.sz = true) : h.at (r : Int) = h.lk r := by simp [Ho.at, hz]
theorem Ho.at_out (h : Ho) {z : Int} (hz : amgB z h.sz = false) : h.at z = lk0 := by simp [Ho.at, hz]
set_option maxRecDepth 100000 in
theorem look_nil (w : World) (z : Int) :
    Calls Try.prog 57 #[.pointer none, .int .i64 z] w fun e w' => e = .returned (lkV lk0) ∧ Below w.heap.size w w' := by
  go_enter Try.func57, Try.ntmps57
  go_wp2_with fail
  refine (lock_nil _ _).mono ?_
  rintro e w1 ⟨rfl, rfl⟩
  go_wp2
  refine bodyPost_ret (v := lkV lk0) ?_ rfl ⟨rfl, ?_⟩
  · rw [results_cell1 rfl]
    go_simp
    exact ⟨rfl, rfl, rfl, rfl⟩
  · exact balloc (Below.refl _ _) _
set_option maxRecDepth 100000 in
theorem look_any {w : World} {b : Nat} {h : Ho} (x : IsH w b h) (z : Int) :
    Calls Try.prog 57 #[.pointer (some ⟨b, 0, none⟩), .int .i64 z] w fun e w' => e = .returned (lkV (h.at z)) ∧ Below w.heap.size w w' := by
  have HB : Hid (Below w.heap.size w (w.alloc (.cells #[.int .i64 0, .int .i64 0, .int .i64 0, .int .i64 0] 87))) := Lib.hid (balloc (Below.refl _ _) _)
  have X := Lib.hid (x.below HB.out)
  have xs := x.sz
  clear x
  rcases amg_cases z h.sz xs with ⟨r, hr, rfl, hz⟩ | hz
  · rw [h.at_in hz]
    have Hl := Lib.hid (lock_in X.out hr hz)
    have q0 := X.out.k0 r hr
    have q1 := X.out.k1 r hr
    have q2 := X.out.k2 r hr
    have q3 := X.out.k3 r hr
    have hlt : 2 + r * 4 ≠ 0 := by omega
    have Hbl := Lib.hid X.out.lt
    clear hz xs
    go_enter Try.func57, Try.ntmps57
    go_wp2_with fail
    refine Hl.out.mono ?_
    rintro e w1 ⟨rfl, rfl⟩
    go_wp2
    refine bodyPost_ret (v := lkV (h.lk r)) ?_ rfl ⟨rfl, ?_⟩
    · rw [results_cell1 rfl]
      go_simp
    · exact balloc (Below.refl _ _) _
  · rw [h.at_out hz]
    have Hl := Lib.hid (lock_out X.out z hz)
    clear hz xs
    go_enter Try.func57, Try.ntmps57
    go_wp2_with fail
    refine Hl.out.mono ?_
    rintro e w1 ⟨rfl, rfl⟩
    go_wp2
    refine bodyPost_ret (v := lkV lk0) ?_ rfl ⟨rfl, ?_⟩
    · rw [results_cell1 rfl]
      go_simp
      exact ⟨rfl, rfl, rfl, rfl⟩
    · exact balloc (Below.refl _ _) _
theorem field_lk0 (a b c d : Value) (w : World) : Sem.run Try.prog (Instr.field 87 (.agg #[a, b, c, d]) 0) w = .ok a w := by kernel_rfl
theorem field_lk2 (a b c d : Value) (w : World) : Sem.run Try.prog (Instr.field 87 (.agg #[a, b, c, d]) 2) w = .ok c w := by kernel_rfl
set_option maxRecDepth 100000 in
theorem Mode_nil (w : World) (z : Int) :
    Calls Try.prog 23 #[.pointer none, .int .i64 z] w fun e w' => e = .returned (.int .i64 0) ∧ Below w.heap.size w w' := by
  go_enter Try.func23, Try.ntmps23
  go_wp2_with fail
  refine (look_nil _ _).mono ?_
  rintro e w1 ⟨rfl, hb⟩
  have Hb := Lib.hid hb
  clear hb
  have e0 : lk0.has = 0 := rfl
  have e1 : lk0.keeps = 0 := rfl
  have e2 : lk0.wants = 0 := rfl
  have e3 : lk0.count = 0 := rfl
  rw [lkV_def, e0, e1, e2, e3]
  clear e0 e1 e2 e3
  have hf := field_lk0
  go_wp2
  go_ret
  exact ⟨rfl, Hb.out⟩
set_option maxRecDepth 100000 in
theorem Wants_nil (w : World) (z : Int) :
    Calls Try.prog 26 #[.pointer none, .int .i64 z] w fun e w' => e = .returned (.int .i64 0) ∧ Below w.heap.size w w' := by
  go_enter Try.func26, Try.ntmps26
  go_wp2_with fail
  refine (look_nil _ _).mono ?_
  rintro e w1 ⟨rfl, hb⟩
  have Hb := Lib.hid hb
  clear hb
  have e0 : lk0.has = 0 := rfl
  have e1 : lk0.keeps = 0 := rfl
  have e2 : lk0.wants = 0 := rfl
  have e3 : lk0.count = 0 := rfl
  rw [lkV_def, e0, e1, e2, e3]
  clear e0 e1 e2 e3
  have hf := field_lk2
  go_wp2
  go_ret
  exact ⟨rfl, Hb.out⟩
set_option maxRecDepth 100000 in
theorem hMode_any {w : World} {b : Nat} {h : Ho} (x : IsH w b h) (z : Int) :
    Calls Try.prog 23 #[.pointer (some ⟨b, 0, none⟩), .int .i64 z] w fun e w' => e = .returned (.int .i64 (h.at z).has) ∧ Below w.heap.size w w' := by
  have Hl := Lib.hid (look_any x z)
  obtain ⟨l, hl⟩ : ∃ l, h.at z = l := ⟨_, rfl⟩
  rw [hl] at Hl ⊢
  clear x
  go_enter Try.func23, Try.ntmps23
  go_wp2_with fail
  refine Hl.out.mono ?_
  rw [lkV_def]
  rintro e w1 ⟨rfl, hb⟩
  have Hb := Lib.hid hb
  clear hb
  have hf := field_lk0
  go_wp2
  go_ret
  exact ⟨rfl, Hb.out⟩
set_option maxRecDepth 100000 in
theorem hWants_any {w : World} {b : Nat} {h : Ho} (x : IsH w b h) (z : Int) :
    Calls Try.prog 26 #[.pointer (some ⟨b, 0, none⟩), .int .i64 z] w fun e w' => e = .returned (.int .i64 (h.at z).wants) ∧ Below w.heap.size w w' := by
  have Hl := Lib.hid (look_any x z)
  obtain ⟨l, hl⟩ : ∃ l, h.at z = l := ⟨_, rfl⟩
  rw [hl] at Hl ⊢
  clear x
  go_enter Try.func26, Try.ntmps26
  go_wp2_with fail
  refine Hl.out.mono ?_
  rw [lkV_def]
  rintro e w1 ⟨rfl, hb⟩
  have Hb := Lib.hid hb
  clear hb
  have hf := field_lk2
  go_wp2
  go_ret
  exact ⟨rfl, Hb.out⟩
/-! ### called -/
def calM (l : Lk) : Int := if stB l.has l.keeps then l.keeps else 0
set_option maxRecDepth 100000 in
theorem Called_nil (w : World) (z : Int) :
    Calls Try.prog 27 #[.pointer none, .int .i64 z] w fun e w' => e = .returned (.tuple #[.int .i64 0, .bool false]) ∧ Below w.heap.size w w' := by
  go_enter Try.func27, Try.ntmps27
  go_wp2_with fail
  refine (look_nil _ _).mono ?_
  rintro e w1 ⟨rfl, hb⟩
  have Hb := Lib.hid (balloc hb (.cells #[.int .i64 0, .int .i64 0, .int .i64 0, .int .i64 0] 87))
  clear hb
  have e0 : lk0.has = 0 := rfl
  have e1 : lk0.keeps = 0 := rfl
  have e2 : lk0.wants = 0 := rfl
  have e3 : lk0.count = 0 := rfl
  rw [lkV_def, e0, e1, e2, e3]
  clear e0 e1 e2 e3
  go_wp2_with fail
  refine (stronger_any _ _ _).mono ?_
  rw [show stB 0 0 = false from rfl]
  rintro e w2 ⟨rfl, hb⟩
  have Hb2 := Lib.hid (bnext Hb.out hb)
  clear hb
  go_wp2
  go_ret2
  exact ⟨rfl, Hb2.out⟩
set_option maxRecDepth 100000 in
theorem hCalled_any {w : World} {b : Nat} {h : Ho} (x : IsH w b h) (z : Int) :
    Calls Try.prog 27 #[.pointer (some ⟨b, 0, none⟩), .int .i64 z] w fun e w' => e = .returned (.tuple #[.int .i64 (calM (h.at z)), .bool (stB (h.at z).has (h.at z).keeps)]) ∧ Below w.heap.size w w' := by
  have Hl := Lib.hid (look_any x z)
  obtain ⟨l, hl⟩ : ∃ l, h.at z = l := ⟨_, rfl⟩
  rw [hl] at Hl ⊢
  obtain ⟨q, Hq⟩ : ∃ q, Hid (stB l.has l.keeps = q) := ⟨_, Lib.hid rfl⟩
  obtain ⟨M, HM⟩ : ∃ q, Hid (calM l = q) := ⟨_, Lib.hid rfl⟩
  have HM2 : Hid (M = if q then l.keeps else 0) := Lib.hid (by rw [← HM.out, ← Hq.out]; rfl)
  rw [HM.out, Hq.out]
  clear x
  go_enter Try.func27, Try.ntmps27
  go_wp2_with fail
  refine Hl.out.mono ?_
  rintro e w1 ⟨rfl, hb⟩
  have Hb := Lib.hid (balloc hb (.cells #[.int .i64 l.has, .int .i64 l.keeps, .int .i64 l.wants, .int .i64 l.count] 87))
  clear hb
  obtain ⟨W, HW⟩ : ∃ x, Hid (w1.alloc (.cells #[.int .i64 l.has, .int .i64 l.keeps, .int .i64 l.wants, .int .i64 l.count] 87) = x) := ⟨_, Lib.hid rfl⟩
  have c1 : W.cell? ⟨w1.heap.size, 1, none⟩ = some (.int .i64 l.keeps) := by rw [← HW.out]; simp [go_sem]
  have hlt : w1.heap.size < W.heap.size := by rw [← HW.out]; simp
  rw [HW.out] at Hb
  have C := Lib.hid (And.intro c1 hlt)
  clear c1 hlt
  go_wp2_with fail
  rw [HW.out]
  refine (stronger_any W _ _).mono ?_
  rw [Hq.out]
  rintro e w2 ⟨rfl, hb⟩
  have c1 := (hb.cell (p := ⟨w1.heap.size, 1, none⟩) C.out.2).trans C.out.1
  have Hb2 := Lib.hid (bnext Hb.out hb)
  clear hb
  cases q
  · go_wp2
    go_ret2
    exact ⟨by rw [HM2.out]; rfl, Hb2.out⟩
  · go_wp2
    go_ret2
    exact ⟨by rw [HM2.out]; rfl, Hb2.out⟩
/-! ### made -/
set_option maxRecDepth 100000 in
theorem Hold_any (w : World) (ep z : Int) :
    Calls Try.prog 14 #[.int .i64 ep, .int .i64 z] w fun e w' => ∃ b, e = .returned (.pointer (some ⟨b, 0, none⟩)) ∧ IsH w' b (Ho.new ep (keptM z)) ∧ Below w.heap.size w w' ∧ w.heap.size ≤ b := by
  obtain ⟨k, Hk⟩ : ∃ k, Hid (keptM z = k) := ⟨_, Lib.hid rfl⟩
  have Hs : Hid (k ≤ 16) := Lib.hid (by rw [← Hk.out]; unfold keptM; omega)
  rw [Hk.out]
  go_enter Try.func14, Try.ntmps14
  go_wp2_with fail
  refine (kept_any _ _).mono ?_
  rw [Hk.out]
  rintro e w1 ⟨rfl, rfl⟩
  go_wp2
  go_ret
  exact ⟨_, rfl, (isH_new w ep k 90 Hs.out :), balloc (Below.refl _ _) _, Nat.le_refl _⟩
/-! ### a lock, turned -/
set_option maxRecDepth 100000 in
theorem set_any {w : World} {b : Nat} {h : Ho} (x : IsH w b h) {r : Nat} (hr : r < 16) (m : Int) :
    Calls Try.prog 46 #[.pointer (some ⟨b, 2 + r * 4, none⟩), .int .i64 m] w fun e w' => e = .returned (.tuple #[]) ∧ IsH w' b (h.put r ⟨m, m, 0, (h.lk r).count⟩) ∧ Mod (· = b) w w' := by
  have X := Lib.hid x
  have q0 := x.k0 r hr
  have q1 := x.k1 r hr
  have q2 := x.k2 r hr
  have f0 := x.free (2 + r * 4) (by omega)
  have f1 := x.free (2 + r * 4 + 1) (by omega)
  have f2 := x.free (2 + r * 4 + 2) (by omega)
  clear x
  go_enter Try.func46, Try.ntmps46
  go_wp2
  go_end0
  have y := ((X.out.set0 hr m).set1 hr m).set2 hr 0
  rw [Ho.put_at, Ho.put_put, Ho.put_at, Ho.put_put] at y
  exact ⟨rfl, y, (((Mod.refl _ w).set1 _).set1 _).set1 _⟩
set_option maxRecDepth 100000 in
theorem call_any {w : World} {b : Nat} {h : Ho} (x : IsH w b h) {r : Nat} (hr : r < 16) (m : Int) :
    Calls Try.prog 55 #[.pointer (some ⟨b, 2 + r * 4, none⟩), .int .i64 m] w fun e w' => e = .returned (.tuple #[]) ∧
      IsH w' b (h.put r ⟨(h.lk r).has, if stB (h.lk r).keeps m then m else (h.lk r).keeps, (h.lk r).wants, (h.lk r).count⟩) ∧ Mod (· = b) w w' := by
  have X := Lib.hid x
  have q1 := x.k1 r hr
  clear x
  obtain ⟨q, Hq⟩ : ∃ q, Hid (stB (h.lk r).keeps m = q) := ⟨_, Lib.hid rfl⟩
  have Hps := Lib.hid (Ho.put_same h r)
  rw [Hq.out]
  go_enter Try.func55, Try.ntmps55
  go_wp2_with fail
  refine (stronger_any _ _ _).mono ?_
  rw [Hq.out]
  rintro e w1 ⟨rfl, hb⟩
  have X1 := Lib.hid (X.out.below hb)
  have Hb := Lib.hid hb
  clear hb
  cases q
  · clear q1
    go_wp2
    go_end0
    refine ⟨rfl, ?_, Mod.of_below Hb.out⟩
    have y := X1.out
    rw [← Hps.out] at y
    exact y
  · have q1' := X1.out.k1 r hr
    have f1 := X1.out.free (2 + r * 4 + 1) (by omega)
    clear q1
    go_wp2
    go_end0
    exact ⟨rfl, X1.out.set1 hr m, (Mod.of_below Hb.out).set1 _⟩
end Go.Proofs.Ythpmodohfjjjcaa
