/- What empties caches: Flush, Takes, Drop; and who is to be put out: Fence. -/
import Derived.Test.YtcahccjlompilaaSettle
import Derived.Test.YtcahccjlompilaaShelf
import Derived.Test.YtcahccjlompilaaDiskA
import Derived.RangeFuncStops
namespace Go.Proofs.Ytcahccjlompilaa
open Go.RowKit Go.MapKept

theorem Flush1_any (w : World) : Calls Try.prog 49 #[] w fun e w' => e = .returned (.bool true) ∧ w = w' := by
  go_enter Try.func49, Try.ntmps49
  go_wp2
  go_ret
  exact ⟨rfl, rfl⟩
theorem entersF (args : Array Value) (w : World) : (callFunc 49 args).run Try.prog w = .ok (.enter 49 args) w := enters_of Try.func49 (by kernel_rfl) rfl args w
theorem entersO (args : Array Value) (w : World) : (callFunc 67 args).run Try.prog w = .ok (.enter 67 args) w := enters_of Try.func67 (by kernel_rfl) rfl args w
/-- A box holds what is left of the picks, which lie in block g. -/
structure Picks (w : World) (q g : Nat) (zs : List Int) : Prop where
  wf : ∀ z ∈ zs, (Lit.int .i64 z).wf = true
  ne : 0 < zs.length → g ≠ q
  box : ∃ a cap, w.cell? ⟨q, 0, none⟩ = some (.slice a zs.length cap) ∧ w.frozen? ⟨q, 0, none⟩ = false ∧ zs.length ≤ cap ∧ (0 < zs.length → ∃ off, a = some ⟨g, off, none⟩ ∧ ∀ i, i < zs.length → w.cell? ⟨g, off + i, none⟩ = some (.int .i64 (zs.getD i 0)))
theorem Picks.later {S : Nat → Prop} {w w' : World} {q g : Nat} {zs : List Int} (h : Picks w q g zs) (m : Mod S w w') (hq : ¬ S q) (hg : 0 < zs.length → ¬ S g) : Picks w' q g zs := by
  obtain ⟨a, cap, hc, hf, hcap, hx⟩ := h.box
  have hl := lt_of_cell hc
  refine ⟨h.wf, h.ne, a, cap, (m.cell (p := ⟨q, 0, none⟩) hl hq).trans hc, (m.frozen (p := ⟨q, 0, none⟩) hl hq).trans hf, hcap, fun h0 => ?_⟩
  obtain ⟨off, ha, hcells⟩ := hx h0
  exact ⟨off, ha, fun i hi => (m.cell (p := ⟨g, off + i, none⟩) (lt_of_cell (hcells i hi)) (hg h0)).trans (hcells i hi)⟩
/-- Picks that are handed in. -/
structure PickArg (w : World) (a : Option Addr) (len cap g : Nat) (zs : List Int) : Prop where
  length : zs.length = len
  le : len ≤ cap
  wf : ∀ z ∈ zs, (Lit.int .i64 z).wf = true
  cells : 0 < len → ∃ off, a = some ⟨g, off, none⟩ ∧ ∀ i, i < len → w.cell? ⟨g, off + i, none⟩ = some (.int .i64 (zs.getD i 0))
theorem PickArg.none (w : World) (g : Nat) : PickArg w Option.none 0 0 g [] := ⟨rfl, Nat.le_refl _, (fun z h => by cases h), fun h => absurd h (by omega)⟩
theorem PickArg.later {S : Nat → Prop} {w w' : World} {a : Option Addr} {len cap g : Nat} {zs : List Int} (h : PickArg w a len cap g zs) (m : Mod S w w') (hg : 0 < len → ¬ S g) : PickArg w' a len cap g zs :=
  ⟨h.length, h.le, h.wf, fun h0 => by
    obtain ⟨off, ha, hcells⟩ := h.cells h0
    exact ⟨off, ha, fun i hi => (m.cell (p := ⟨g, off + i, Option.none⟩) (lt_of_cell (hcells i hi)) (hg h0)).trans (hcells i hi)⟩⟩
/-- Is a pick odd? -/
def oddB (z : Int) : Bool := decide (z % 2 ≠ 0)
/-- Which writes land. -/
def decs (zs : List Int) (i : Nat) : Bool := oddB (zs.getD i 0)
theorem odd_val (z : Int) : (z.tmod 2 != 0) = oddB z := by
  have h1 := Int.tmod_add_mul_tdiv z 2
  have h2 := Int.tmod_lt_of_pos z (b := 2) (by omega)
  have h3 := Int.lt_tmod_of_pos z (b := 2) (by omega)
  unfold oddB
  rw [Bool.eq_iff_iff]
  simp only [bne_iff_ne, ne_eq, decide_eq_true_eq]
  omega
theorem odd1_none (w : World) (q g : Nat) (h : Picks w q g []) : Calls Try.prog 67 #[.pointer (some ⟨q, 0, none⟩)] w fun e w' => e = .returned (.bool false) ∧ w = w' := by
  obtain ⟨a, cap, hc, hf, _, _⟩ := h.box
  go_enter Try.func67, Try.ntmps67
  go_wp2
  go_ret
  exact ⟨rfl, rfl⟩
theorem odd1_some (w : World) (q g : Nat) (z : Int) (zs : List Int) (h : Picks w q g (z :: zs)) : Calls Try.prog 67 #[.pointer (some ⟨q, 0, none⟩)] w fun e w' => e = .returned (.bool (oddB z)) ∧ Picks w' q g zs ∧ Mod (· = q) w w' := by
  obtain ⟨a, cap, hc, hf, hcap, hx⟩ := h.box
  have hgq := h.ne (by simp)
  obtain ⟨off, rfl, hcells⟩ := hx (by simp)
  have x0 := hcells 0 (by simp)
  have hwf := h.wf
  have Hcells := Lib.hid hcells
  have Hwf := Lib.hid hwf
  have Hgq := Lib.hid hgq
  have hz := bounds_i64 (hwf z (by simp))
  simp only [List.length_cons, List.getD_cons_zero, Nat.add_zero] at hc x0 hcap
  clear hcells hwf hx h
  have Hodd := Lib.hid (odd_val z)
  have hl0 : (((zs.length + 1 : Nat) : Int) == 0) = false := beq_no (by omega)
  by_cases hcz : cap = 1
  · obtain rfl : zs = [] := List.eq_nil_of_length_eq_zero (by omega)
    subst hcz
    go_enter Try.func67, Try.ntmps67
    go_wp2
    go_ret
    refine ⟨ret_bool Hodd.out, ⟨(fun z h => by cases h), (fun _ => Hgq.out), _, _, set_same hc, set_frozen hf, Nat.le_refl _, fun h => absurd h (by decide)⟩, (Mod.refl _ w).set1 _⟩
  · go_enter Try.func67, Try.ntmps67
    go_wp2
    go_ret
    refine ⟨ret_bool Hodd.out, ⟨fun z h => Hwf.out z (by simp [h]), (fun _ => Hgq.out), _, _, set_same hc, set_frozen hf, by omega, fun h => ⟨off + 1, rfl, fun i hi => ?_⟩⟩, (Mod.refl _ w).set1 _⟩
    have := Hcells.out (i + 1) (by simpa using hi)
    rw [show off + 1 + i = off + (i + 1) by omega]
    exact set_other (fun e => Hgq.out (by injection e with e; exact e.symm)) (by simpa using this)
/-- The closure that tells of one pick at each call. -/
theorem odd_any (a : Option Addr) (len cap : Nat) (w : World) : Calls Try.prog 54 #[.slice a len cap] w fun e w' => e = .returned (.func (.func 67) #[] #[.pointer (some ⟨w.heap.size, 0, none⟩)]) ∧ w' = w.alloc (.cells #[.slice a len cap] 29) := by
  go_enter Try.func54, Try.ntmps54
  go_wp2
  go_ret
  exact ⟨rfl, rfl⟩
theorem PickArg.boxed {w : World} {a : Option Addr} {len cap g : Nat} {zs : List Int} (h : PickArg w a len cap g zs) : Picks (w.alloc (.cells #[.slice a len cap] 29)) w.heap.size g zs := by
  have hb : Below w.heap.size w (w.alloc (.cells #[.slice a len cap] 29)) := (Below.refl _ _).alloc (Nat.le_refl _) _
  have hg : 0 < len → g < w.heap.size := fun h0 => by
    obtain ⟨off, ha, hc⟩ := h.cells h0
    exact lt_of_cell (hc 0 h0)
  refine ⟨h.wf, (fun h0 => by rw [h.length] at h0; have := hg h0; omega), a, cap, by rw [h.length]; simp [go_sem], by simp [go_sem], by rw [h.length]; exact h.le, fun h0 => ?_⟩
  rw [h.length] at h0
  obtain ⟨off, ha, hc⟩ := h.cells h0
  exact ⟨off, ha, fun i hi => (hb.cell (p := ⟨g, off + i, Option.none⟩) (hg h0)).trans (hc i (by rw [← h.length]; exact hi))⟩
theorem odd1_at {w : World} {q g : Nat} {zs : List Int} {i : Nat} (h : Picks w q g (zs.drop i)) :
    Calls Try.prog 67 #[.pointer (some ⟨q, 0, none⟩)] w fun e w' => e = .returned (.bool (decs zs i)) ∧ Picks w' q g (zs.drop (i + 1)) ∧ Mod (· = q) w w' := by
  by_cases hi : i < zs.length
  · have e : zs.drop i = zs[i] :: zs.drop (i + 1) := List.drop_eq_getElem_cons hi
    rw [e] at h
    have ed : decs zs i = oddB zs[i] := by rw [decs, List.getD_eq_getElem?_getD, List.getElem?_eq_getElem hi]; rfl
    rw [ed]
    exact odd1_some w q g _ _ h
  · have e : zs.drop i = [] := List.drop_of_length_le (by omega)
    have e2 : zs.drop (i + 1) = [] := List.drop_of_length_le (by omega)
    rw [e] at h
    have ed : decs zs i = false := by rw [decs, List.getD_eq_getElem?_getD, List.getElem?_eq_none (by omega)]; rfl
    rw [ed, e2]
    exact (odd1_none w q g h).mono fun e w' ⟨he, hw⟩ => ⟨he, hw ▸ h, hw ▸ Mod.refl _ _⟩
/-- What settling by picks leaves. -/
def DS.settle (s : DS) (k : Int) (dec : Nat → Bool) : DS := (s.liesTo (landed s.lies (s.caches k) dec (s.caches k).length)).cacheTo k []
theorem settle_picks {w : World} {b n : Nat} {ρ : Nat → Role} {s : DS} {lb kb cb : Nat} {pv : Value} {cf : Int → Option Value} (h : Dk w b ρ n s lb kb cb pv cf) {k : Int} (hk : (Lit.int .i64 k).wf = true) {q g : Nat} (hq : ρ q = .no) (zs : List Int) (hg : 0 < zs.length → ρ g = .no) (o : Nat) (hp : Picks w q g (zs.drop o)) :
    Calls Try.prog 48 #[.pointer (some ⟨b, 0, none⟩), .int .i64 k, .func (.func 67) #[] #[.pointer (some ⟨q, 0, none⟩)]] w
      fun e w' => e = .returned (.tuple #[]) ∧ IsD w' b ρ n (s.settle k (fun i => decs zs (o + i))) ∧ Mod (fun g => ρ g ≠ .no ∨ g = q) w w' ∧ Picks w' q g (zs.drop (o + (s.caches k).length)) := by
  have hql := lt_of_cell (hp.box.choose_spec.choose_spec.1)
  refine (settle_any h hk 67 #[.pointer (some ⟨q, 0, none⟩)] entersO (fun i => decs zs (o + i)) (fun i w => Picks w q g (zs.drop (o + i))) (fun g => g = q) (fun g e => by subst e; exact ⟨hq, hql⟩) (fun i w w' hp m => hp.later m (fun h => h hq) (fun h0 h => h (hg (by simp at h0; omega))))
    (fun i w _ hp => odd1_at hp) hp).mono ?_
  rintro e w' ⟨he, hD, hM, hP⟩
  exact ⟨he, hD, hM, hP⟩
theorem Flush_yes {w : World} {b n : Nat} {ρ : Nat → Role} {s : DS} {lb kb cb : Nat} {pv : Value} {cf : Int → Option Value} (h : Dk w b ρ n s lb kb cb pv cf) {k : Int} (hk : (Lit.int .i64 k).wf = true) (hr : s.keys k = 1) :
    Calls Try.prog 20 #[.pointer (some ⟨b, 0, none⟩), .int .i64 k] w (Did w b ρ n (s.settle k (fun _ => true)) (.int .i64 0)) := by
  have hr' : (s.keys k == 1) = true := beq_yes hr
  have Hr := Lib.hid hr
  clear hr
  go_enter Try.func20, Try.ntmps20
  go_wp2_with fail
  refine (Registered_any h hk).mono ?_
  rw [hr']
  rintro e w1 ⟨rfl, rfl⟩
  go_wp2_with fail
  refine (settle_any h hk 49 #[] entersF (fun _ => true) (fun _ _ => True) (fun _ => False) (fun _ => False.elim) (fun _ _ _ _ _ => trivial) (fun i w _ _ => (Flush1_any w).mono fun e w' ⟨he, hw⟩ => ⟨he, trivial, hw ▸ Mod.refl _ _⟩) trivial).mono ?_
  rintro e w2 ⟨rfl, hD, hM, _⟩
  have HD := Lib.hid hD
  have HM := Lib.hid hM
  clear hD hM
  go_wp2
  go_ret
  exact ⟨rfl, ρ, HD.out, ⟨HM.out.mono (fun k _ h => h.elim id False.elim), fun _ _ h => h⟩⟩
theorem Flush_no {w : World} {b n : Nat} {ρ : Nat → Role} {s : DS} {lb kb cb : Nat} {pv : Value} {cf : Int → Option Value} (h : Dk w b ρ n s lb kb cb pv cf) {k : Int} (hk : (Lit.int .i64 k).wf = true) (hr : s.keys k ≠ 1) :
    Calls Try.prog 20 #[.pointer (some ⟨b, 0, none⟩), .int .i64 k] w fun e w' => e = .returned (.int .i64 14) ∧ w = w' := by
  have hr' : (s.keys k == 1) = false := beq_no hr
  clear hr
  go_enter Try.func20, Try.ntmps20
  go_wp2_with fail
  refine (Registered_any h hk).mono ?_
  rw [hr']
  rintro e w1 ⟨rfl, rfl⟩
  go_wp2
  go_ret
  exact ⟨rfl, rfl⟩
end Go.Proofs.Ytcahccjlompilaa
