/- A pulse as it lies in memory, and what is told of it. -/
import Derived.Test.YtjmhepipkmbbmaaChecked
import Derived.Test.YtjmhepipkmbbmaaClose
import Derived.Test.YtjmhepipkmbbmaaMix
import Derived.Deep.DeepCutAuto
import Derived.Outline
import Derived.Deep.QuietTactic
import Derived.BigQuiet
namespace Go.Proofs.Ytjmhepipkmbbmaa
open Go.RowKit

/-- A pulse: the limit it was made with, who is watched, and the ticks of each. -/
structure PS where
  lim : Int
  wt : Nat → Bool
  tk : Nat → Int
def mostP (l : Int) : Int := min (max l 1) 1000
/-- A pulse in block b. -/
structure IsP (w : World) (b : Nat) (s : PS) : Prop where
  lim : w.cell? ⟨b, 0, none⟩ = some (.int .i64 s.lim)
  wt : ∀ k, k < 8 → w.cell? ⟨b, 1 + k * 2, none⟩ = some (.bool (s.wt k))
  tk : ∀ k, k < 8 → w.cell? ⟨b, 1 + k * 2 + 1, none⟩ = some (.int .i64 (s.tk k))
  free : ∀ o, o < 17 → w.frozen? ⟨b, o, none⟩ = false
  lo : ∀ k, k < 8 → 0 ≤ s.tk k
  hi : ∀ k, k < 8 → s.tk k ≤ 1000
theorem IsP.lt {w : World} {b : Nat} {s : PS} (h : IsP w b s) : b < w.heap.size := lt_of_cell h.lim
theorem most_any (w : World) (b : Nat) (l : Int) (h : w.cell? ⟨b, 0, none⟩ = some (.int .i64 l)) :
    Calls Try.prog 25 #[.pointer (some ⟨b, 0, none⟩)] w fun e w' => e = .returned (.int .i64 (mostP l)) ∧ w = w' := by
  go_enter Try.func25, Try.ntmps25
  go_wp2
  all_goals
    go_ret
    exact ⟨ret_int (by unfold mostP; omega), rfl⟩
def nodeB (z : Int) : Bool := decide (0 ≤ z) && decide (z < 8)
theorem nodeB_yes {k : Nat} (h : k < 8) : nodeB (k : Int) = true := by simp [nodeB]; omega
theorem nodeB_no {z : Int} (h : z < 0 ∨ 8 ≤ z) : nodeB z = false := by simp [nodeB]; omega
theorem node_cases (z : Int) : (∃ k : Nat, k < 8 ∧ z = (k : Int)) ∨ (nodeB z = false) := by
  by_cases h : 0 ≤ z ∧ z < 8
  · exact .inl ⟨z.toNat, by omega, by omega⟩
  · exact .inr (nodeB_no (by omega))
theorem there_any (w : World) (z : Int) :
    Calls Try.prog 30 #[.int .i64 z] w fun e w' => e = .returned (.bool (nodeB z)) ∧ w = w' := by
  go_enter Try.func30, Try.ntmps30
  go_wp2
  all_goals
    go_ret
    exact ⟨ret_bool (by simp [nodeB]; try omega), rfl⟩
/-- The cells of a pulse that was made. -/
def psC (s : PS) : Array Value := #[.int .i64 s.lim, .bool (s.wt 0), .int .i64 (s.tk 0), .bool (s.wt 1), .int .i64 (s.tk 1), .bool (s.wt 2), .int .i64 (s.tk 2), .bool (s.wt 3), .int .i64 (s.tk 3), .bool (s.wt 4), .int .i64 (s.tk 4), .bool (s.wt 5), .int .i64 (s.tk 5), .bool (s.wt 6), .int .i64 (s.tk 6), .bool (s.wt 7), .int .i64 (s.tk 7)]
theorem isP_new (w : World) (s : PS) (h : ∀ k, k < 8 → 0 ≤ s.tk k ∧ s.tk k ≤ 1000) (t : TypeId) : IsP (w.alloc (.cells (psC s) t)) w.heap.size s := by
  refine ⟨?_, ?_, ?_, ?_, fun k hk => (h k hk).1, fun k hk => (h k hk).2⟩
  · simp [go_sem, psC]
  · intro k hk
    match k, hk with
    | 0, _ | 1, _ | 2, _ | 3, _ | 4, _ | 5, _ | 6, _ | 7, _ => simp [go_sem, psC]
  · intro k hk
    match k, hk with
    | 0, _ | 1, _ | 2, _ | 3, _ | 4, _ | 5, _ | 6, _ | 7, _ => simp [go_sem, psC]
  · intro o ho
    simp [go_sem]
def PS.new (l : Int) : PS := ⟨l, fun _ => false, fun _ => 0⟩
theorem New_any (w : World) (l : Int) :
    Calls Try.prog 9 #[.int .i64 l] w fun e w' => ∃ b, e = .returned (.pointer (some ⟨b, 0, none⟩)) ∧ IsP w' b (PS.new l) ∧ Below w.heap.size w w' ∧ w.heap.size ≤ b := by
  go_enter Try.func9, Try.ntmps9
  go_wp2
  go_ret
  exact ⟨_, rfl, isP_new w (PS.new l) (fun _ _ => ⟨Int.le_refl (0 : Int), show (0 : Int) ≤ 1000 by decide⟩) _, (Below.refl _ _).alloc (Nat.le_refl _) _, Nat.le_refl _⟩
theorem IsP.later {S : Nat → Prop} {w w' : World} {b : Nat} {s : PS} (h : IsP w b s) (m : Mod S w w') (hs : ¬ S b) : IsP w' b s :=
  ⟨(m.cell (p := ⟨b, 0, none⟩) h.lt hs).trans h.lim, fun k hk => (m.cell (p := ⟨b, 1 + k * 2, none⟩) h.lt hs).trans (h.wt k hk), fun k hk => (m.cell (p := ⟨b, 1 + k * 2 + 1, none⟩) h.lt hs).trans (h.tk k hk),
    fun o ho => (m.frozen (p := ⟨b, o, none⟩) h.lt hs).trans (h.free o ho), h.lo, h.hi⟩
theorem IsP.below {w w' : World} {b : Nat} {s : PS} (h : IsP w b s) (m : Below w.heap.size w w') : IsP w' b s := h.later (Mod.of_below (S := fun _ => False) m) id

theorem look_nil (w : World) (z : Int) :
    Calls Try.prog 27 #[.pointer none, .int .i64 z] w fun e w' => e = .returned (.tuple #[.int .i64 0, .bool false]) ∧ w = w' := by
  go_enter Try.func27, Try.ntmps27
  go_wp2
  go_ret2
  exact ⟨rfl, rfl⟩
theorem look_out (w : World) (b : Nat) (z : Int) (h : nodeB z = false) :
    Calls Try.prog 27 #[.pointer (some ⟨b, 0, none⟩), .int .i64 z] w fun e w' => e = .returned (.tuple #[.int .i64 0, .bool false]) ∧ w = w' := by
  go_enter Try.func27, Try.ntmps27
  go_wp2_with fail
  refine (there_any _ z).mono ?_
  rw [h]
  rintro e w1 ⟨rfl, rfl⟩
  go_wp2
  go_ret2
  exact ⟨rfl, rfl⟩
theorem look_in {w : World} {b : Nat} {s : PS} (h : IsP w b s) (k : Nat) (hk : k < 8) :
    Calls Try.prog 27 #[.pointer (some ⟨b, 0, none⟩), .int .i64 (k : Int)] w fun e w' => e = .returned (.tuple #[.int .i64 (s.tk k), .bool (s.wt k)]) ∧ Below w.heap.size w w' := by
  have c1 := h.wt k hk
  have c2 := h.tk k hk
  have hn := nodeB_yes hk
  have hb := h.lt
  clear h
  go_enter Try.func27, Try.ntmps27
  go_wp2_with fail
  refine (there_any _ _).mono ?_
  rw [hn]
  rintro e w1 ⟨rfl, rfl⟩
  go_wp2_with fail
  go_quiet (fail)
  go_wp2
  go_ret2
  exact ⟨rfl, bnext (balloc (Below.refl _ _) _) (below_drewN _ _)⟩
def quietP (s : PS) (z : Int) : Int := if nodeB z && s.wt z.toNat then s.tk z.toNat else -1
theorem quietP_in (s : PS) {k : Nat} (h : k < 8) : quietP s (k : Int) = if s.wt k then s.tk k else -1 := by
  simp [quietP, nodeB_yes h]
theorem Quiet_nil (w : World) (z : Int) :
    Calls Try.prog 21 #[.pointer none, .int .i64 z] w fun e w' => e = .returned (.int .i64 (-1)) ∧ w = w' := by
  go_enter Try.func21, Try.ntmps21
  go_wp2_with fail
  refine (look_nil _ z).mono ?_
  rintro e w1 ⟨rfl, rfl⟩
  go_wp2
  go_ret
  exact ⟨rfl, rfl⟩
theorem Quiet_any {w : World} {b : Nat} {s : PS} (h : IsP w b s) (z : Int) :
    Calls Try.prog 21 #[.pointer (some ⟨b, 0, none⟩), .int .i64 z] w fun e w' => e = .returned (.int .i64 (quietP s z)) ∧ Below w.heap.size w w' := by
  rcases node_cases z with ⟨k, hk, rfl⟩ | hn
  · rw [quietP_in s hk]
    have Hl := Lib.hid (look_in h k hk)
    clear h
    obtain ⟨x, hx⟩ : ∃ x, s.wt k = x := ⟨_, rfl⟩
    obtain ⟨y, hy⟩ : ∃ y, s.tk k = y := ⟨_, rfl⟩
    rw [hx, hy] at Hl ⊢
    go_enter Try.func21, Try.ntmps21
    go_wp2_with fail
    refine Hl.out.mono ?_
    rintro e w1 ⟨rfl, hb⟩
    have Hb := Lib.hid hb
    clear hb
    cases x
    all_goals
      go_wp2
      go_ret
      exact ⟨rfl, Hb.out⟩
  · have e1 : quietP s z = -1 := by simp [quietP, hn]
    rw [e1]
    clear h
    go_enter Try.func21, Try.ntmps21
    go_wp2_with fail
    refine (look_out _ b z hn).mono ?_
    rintro e w1 ⟨rfl, rfl⟩
    go_wp2
    go_ret
    exact ⟨rfl, Below.refl _ _⟩
def PS.put (s : PS) (k : Nat) (x : Bool) (y : Int) : PS := ⟨s.lim, fun j => if j = k then x else s.wt j, fun j => if j = k then y else s.tk j⟩
def setB (s : PS) (z : Int) (want : Bool) : Bool := nodeB z && (s.wt z.toNat == want)
def setP (s : PS) (z : Int) (want x : Bool) : PS := if setB s z want then s.put z.toNat x 0 else s
theorem IsP.put {w : World} {b : Nat} {s : PS} (h : IsP w b s) {k : Nat} (hk : k < 8) (x : Bool) (y : Int) (h0 : 0 ≤ y) (h1 : y ≤ 1000) :
    IsP ((w.setCell ⟨b, 1 + k * 2, none⟩ (.bool x)).setCell ⟨b, 1 + k * 2 + 1, none⟩ (.int .i64 y)) b (s.put k x y) := by
  refine ⟨set_other (by simp) (set_other (by simp) h.lim), fun j hj => ?_, fun j hj => ?_, fun o ho => set_frozen (set_frozen (h.free o ho)), fun j hj => ?_, fun j hj => ?_⟩
  · by_cases e : j = k
    · subst e
      simp only [PS.put, if_pos]
      exact set_other (by simp) (set_same (h.wt j hj))
    · simp only [PS.put, if_neg e]
      exact set_other (by simp; try omega) (set_other (by simp; try omega) (h.wt j hj))
  · by_cases e : j = k
    · subst e
      simp only [PS.put, if_pos]
      exact set_same (set_other (by simp) (h.tk j hj))
    · simp only [PS.put, if_neg e]
      exact set_other (by simp; try omega) (set_other (by simp; try omega) (h.tk j hj))
  · simp only [PS.put]; split
    · exact h0
    · exact h.lo j hj
  · simp only [PS.put]; split
    · exact h1
    · exact h.hi j hj
theorem set_nil (w : World) (z : Int) (want x : Bool) :
    Calls Try.prog 23 #[.pointer none, .int .i64 z, .bool want, .agg #[.bool x, .int .i64 0]] w fun e w' => e = .returned (.bool false) ∧ Below w.heap.size w w' := by
  go_enter Try.func23, Try.ntmps23
  go_wp2
  go_ret
  exact ⟨rfl, balloc (Below.refl _ _) _⟩
theorem set_any {w : World} {b : Nat} {s : PS} (h : IsP w b s) (z : Int) (want x : Bool) :
    Calls Try.prog 23 #[.pointer (some ⟨b, 0, none⟩), .int .i64 z, .bool want, .agg #[.bool x, .int .i64 0]] w
      fun e w' => e = .returned (.bool (setB s z want)) ∧ IsP w' b (setP s z want x) ∧ Mod (· = b) w w' := by
  have Hh := Lib.hid h
  have hb := h.lt
  rcases node_cases z with ⟨k, hk, rfl⟩ | hn
  · have c1 := h.wt k hk
    have c2 := h.tk k hk
    have hn := nodeB_yes hk
    have f1 := h.free (1 + k * 2) (by omega)
    have f2 := h.free (1 + k * 2 + 1) (by omega)
    clear h
    by_cases hw : s.wt k = want
    · have Hs : Hid (setB s (k : Int) want = true) := Lib.hid (by simp [setB, hn, hw])
      have hne : (s.wt k == want) = true := by simp [hw]
      have Hp : Hid (setP s (k : Int) want x = s.put k x 0) := Lib.hid (by simp [setP, Hs.out])
      clear hw
      go_enter Try.func23, Try.ntmps23
      go_wp2_with fail
      refine (there_any _ _).mono ?_
      rw [hn]
      rintro e w1 ⟨rfl, rfl⟩
      go_wp2_with fail
      go_region
      all_goals
        go_wp2
        go_ret
        exact ⟨ret_bool Hs.out.symm, by rw [Hp.out]; exact (Hh.out.put hk x 0 (by omega) (by omega)).later (((Mod.refl (fun _ => False) _).alloc _).drew) id, ((((Mod.refl _ _).set1 _).set1 _).alloc _).drew⟩
    · have Hs : Hid (setB s (k : Int) want = false) := Lib.hid (by simp [setB, hn, hw])
      have hne : (s.wt k == want) = false := by simp [hw]
      have Hp : Hid (setP s (k : Int) want x = s) := Lib.hid (by simp [setP, Hs.out])
      clear hw
      go_enter Try.func23, Try.ntmps23
      go_wp2_with fail
      refine (there_any _ _).mono ?_
      rw [hn]
      rintro e w1 ⟨rfl, rfl⟩
      go_wp2
      go_ret
      exact ⟨ret_bool Hs.out.symm, by rw [Hp.out]; exact Hh.out.below (balloc (Below.refl _ _) _), (Mod.refl _ _).alloc _⟩
  · have Hs : Hid (setB s z want = false) := Lib.hid (by simp [setB, hn])
    have Hp : Hid (setP s z want x = s) := Lib.hid (by simp [setP, Hs.out])
    clear h
    go_enter Try.func23, Try.ntmps23
    go_wp2_with fail
    refine (there_any _ _).mono ?_
    rw [hn]
    rintro e w1 ⟨rfl, rfl⟩
    go_wp2
    go_ret
    exact ⟨ret_bool Hs.out.symm, by rw [Hp.out]; exact Hh.out.below (balloc (Below.refl _ _) _), (Mod.refl _ _).alloc _⟩
theorem Watch_nil (w : World) (z : Int) :
    Calls Try.prog 13 #[.pointer none, .int .i64 z] w fun e w' => e = .returned (.bool false) ∧ Below w.heap.size w w' := by
  go_enter Try.func13, Try.ntmps13
  go_wp2_with fail
  refine (set_nil _ z _ _).mono ?_
  rintro e w1 ⟨rfl, hb⟩
  have Hb := Lib.hid hb
  clear hb
  go_wp2
  go_ret
  exact ⟨rfl, Hb.out⟩
theorem Heard_nil (w : World) (z : Int) :
    Calls Try.prog 11 #[.pointer none, .int .i64 z] w fun e w' => e = .returned (.bool false) ∧ Below w.heap.size w w' := by
  go_enter Try.func11, Try.ntmps11
  go_wp2_with fail
  refine (set_nil _ z _ _).mono ?_
  rintro e w1 ⟨rfl, hb⟩
  have Hb := Lib.hid hb
  clear hb
  go_wp2
  go_ret
  exact ⟨rfl, Hb.out⟩
theorem Forget_nil (w : World) (z : Int) :
    Calls Try.prog 15 #[.pointer none, .int .i64 z] w fun e w' => e = .returned (.bool false) ∧ Below w.heap.size w w' := by
  go_enter Try.func15, Try.ntmps15
  go_wp2_with fail
  refine (set_nil _ z _ _).mono ?_
  rintro e w1 ⟨rfl, hb⟩
  have Hb := Lib.hid hb
  clear hb
  go_wp2
  go_ret
  exact ⟨rfl, Hb.out⟩
theorem Watch_any {w : World} {b : Nat} {s : PS} (h : IsP w b s) (z : Int) :
    Calls Try.prog 13 #[.pointer (some ⟨b, 0, none⟩), .int .i64 z] w
      fun e w' => e = .returned (.bool (setB s z false)) ∧ IsP w' b (setP s z false true) ∧ Mod (· = b) w w' := by
  have Hl := Lib.hid (set_any h z false true)
  clear h
  go_enter Try.func13, Try.ntmps13
  go_wp2_with fail
  refine Hl.out.mono ?_
  rintro e w1 ⟨rfl, hp⟩
  have Hb := Lib.hid hp
  clear hp
  go_wp2
  go_ret
  exact ⟨rfl, Hb.out⟩
theorem Heard_any {w : World} {b : Nat} {s : PS} (h : IsP w b s) (z : Int) :
    Calls Try.prog 11 #[.pointer (some ⟨b, 0, none⟩), .int .i64 z] w
      fun e w' => e = .returned (.bool (setB s z true)) ∧ IsP w' b (setP s z true true) ∧ Mod (· = b) w w' := by
  have Hl := Lib.hid (set_any h z true true)
  clear h
  go_enter Try.func11, Try.ntmps11
  go_wp2_with fail
  refine Hl.out.mono ?_
  rintro e w1 ⟨rfl, hp⟩
  have Hb := Lib.hid hp
  clear hp
  go_wp2
  go_ret
  exact ⟨rfl, Hb.out⟩
theorem Forget_any {w : World} {b : Nat} {s : PS} (h : IsP w b s) (z : Int) :
    Calls Try.prog 15 #[.pointer (some ⟨b, 0, none⟩), .int .i64 z] w
      fun e w' => e = .returned (.bool (setB s z true)) ∧ IsP w' b (setP s z true false) ∧ Mod (· = b) w w' := by
  have Hl := Lib.hid (set_any h z true false)
  clear h
  go_enter Try.func15, Try.ntmps15
  go_wp2_with fail
  refine Hl.out.mono ?_
  rintro e w1 ⟨rfl, hp⟩
  have Hb := Lib.hid hp
  clear hp
  go_wp2
  go_ret
  exact ⟨rfl, Hb.out⟩
/-- One tick, at the nodes below k. -/
def tickTo (s : PS) (k : Nat) : PS := ⟨s.lim, s.wt, fun j => if j < k then min (s.tk j + 1) (mostP s.lim) else s.tk j⟩
def tickP (s : PS) : PS := tickTo s 8
theorem most_le (l : Int) : 1 ≤ mostP l ∧ mostP l ≤ 1000 := by unfold mostP; omega
theorem tickTo_zero (s : PS) : tickTo s 0 = s := by simp [tickTo]
theorem IsP.tick {w : World} {b : Nat} {s : PS} {k : Nat} (h : IsP w b (tickTo s k)) (hk : k < 8) :
    IsP (w.setCell ⟨b, 1 + k * 2 + 1, none⟩ (.int .i64 (min (s.tk k + 1) (mostP s.lim)))) b (tickTo s (k + 1)) := by
  have hm := most_le s.lim
  have h0 := h.lo k hk
  simp only [tickTo, if_neg (Nat.lt_irrefl k)] at h0
  refine ⟨set_other (by simp) h.lim, fun j hj => set_other (by simp; try omega) (h.wt j hj), fun j hj => ?_, fun o ho => set_frozen (h.free o ho), fun j hj => ?_, fun j hj => ?_⟩
  · by_cases e : j = k
    · subst e
      simp only [tickTo, if_pos (Nat.lt_succ_self j)]
      exact set_same (h.tk j hj)
    · have hh := h.tk j hj
      simp only [tickTo] at hh ⊢
      rw [show (if j < k + 1 then min (s.tk j + 1) (mostP s.lim) else s.tk j) = (if j < k then min (s.tk j + 1) (mostP s.lim) else s.tk j) by
        by_cases h1 : j < k
        · rw [if_pos h1, if_pos (by omega)]
        · rw [if_neg h1, if_neg (by omega)]]
      exact set_other (by simp; try omega) hh
  · have hh := h.lo j hj
    simp only [tickTo] at hh ⊢
    split at hh <;> split <;> first | omega | (obtain rfl : j = k := by omega; omega)
  · have hh := h.hi j hj
    simp only [tickTo] at hh ⊢
    split at hh <;> split <;> omega
theorem Tick_nil (w : World) :
    Calls Try.prog 16 #[.pointer none] w fun e w' => e = .returned (.tuple #[]) ∧ w = w' := by
  go_enter Try.func16, Try.ntmps16
  go_wp2
  exact bodyPost_ret (results_none rfl _ _ _) rfl ⟨rfl, rfl⟩
theorem Tick_any {w : World} {b : Nat} {s : PS} (h : IsP w b s) :
    Calls Try.prog 16 #[.pointer (some ⟨b, 0, none⟩)] w
      fun e w' => e = .returned (.tuple #[]) ∧ IsP w' b (tickP s) ∧ Mod (· = b) w w' := by
  have Hh := Lib.hid h
  clear h
  go_enter Try.func16, Try.ntmps16
  go_wp2
  go_loopw [6] (fun i wr => ∃ k : Nat, i = .int .i64 (k : Int) ∧ k ≤ 8 ∧ Hid (IsP wr b (tickTo s k)) ∧ Hid (Mod (· = b) w wr)) (fun i _ => 8 - (intOf i).toNat)
  case atStart => exact ⟨0, rfl, by omega, Lib.hid (by rw [tickTo_zero]; exact Hh.out), Lib.hid (Mod.refl _ _)⟩
  case round =>
    obtain ⟨k, rfl, hk, HP, HM⟩ := hrel
    by_cases hlt : k < 8
    · have hlt' : (k : Int) < 8 := by omega
      have c2 := HP.out.tk k hlt
      simp only [tickTo, if_neg (Nat.lt_irrefl k)] at c2
      have f2 := HP.out.free (1 + k * 2 + 1) (by omega)
      have b1 : 0 ≤ s.tk k := by have := HP.out.lo k hlt; simpa [tickTo] using this
      have b2 : s.tk k ≤ 1000 := by have := HP.out.hi k hlt; simpa [tickTo] using this
      go_wp2_with fail
      refine wp_region_mix (by kernel_rfl) (Cls (Abv wr)) [(0, 0), (1, 0), (2, 0), (3, 0), (4, 0), (5, 0), (6, 0), (7, 1), (8, 0), (9, 0), (10, 0), (11, 2)] (by kernel_rfl) (cls (Below.refl _ _).drew) ?_
      have q2 : ∀ y : In (Abv wr), y.u.cell? ⟨b, 1 + k * 2 + 1, none⟩ = some (.int .i64 (s.tk k)) := fun y => (y.is.cell (p := ⟨b, 1 + k * 2 + 1, none⟩) HP.out.lt).trans c2
      repeat (refine mix0 rfl (fun K hK => ?_); go_simp; refine hK _ ?_; clear hK K)
      refine mix1 rfl (fun K hK => ?_)
      go_simp
      refine (most_any _ b s.lim (HP.out.below (Below.refl _ _).drew).lim).mono ?_
      rintro e w6 ⟨rfl, rfl⟩
      refine ⟨_, rfl, hK _ _ (cls (Below.refl _ _).drew) ?_⟩
      clear hK K
      repeat (refine mix0 rfl (fun K hK => ?_); go_simp; refine hK _ ?_; clear hK K)
      refine mix2 rfl (fun K hK => ?_)
      go_simp
      refine hK _ _ ?_
      clear hK K
      refine mixEnd ?_
      have ev : (if mostP s.lim < IntKind.i64.wrap (s.tk k + 1) then mostP s.lim else IntKind.i64.wrap (s.tk k + 1)) = min (s.tk k + 1) (mostP s.lim) := by
        rw [IntWalk.i64_in _ (by omega)]
        split <;> omega
      rw [ev]
      clear ev c2 f2 q2
      obtain ⟨w8, Hw8⟩ : ∃ w8, Hid ((wr.setCell ⟨b, 1 + k * 2 + 1, none⟩ (.int .i64 (min (s.tk k + 1) (mostP s.lim)))).drew = w8) := ⟨_, Lib.hid rfl⟩
      have HP8 : Hid (IsP w8 b (tickTo s (k + 1))) := Lib.hid (by rw [← Hw8.out]; exact (HP.out.tick hlt).later ((Mod.refl (fun _ => False) _).drew) id)
      have HM8 : Hid (Mod (· = b) w w8) := Lib.hid (by rw [← Hw8.out]; exact (HM.out.set1 _).drew)
      rw [Hw8.out]
      go_wp2
      go_roundw
      case rel => exact ⟨k + 1, by go_num, by omega, HP8, HM8⟩
      case measure => simp [intOf]; omega
    · obtain rfl : k = 8 := by omega
      go_wp2
      exact bodyPost_end (results_none rfl _ _ _) rfl ⟨rfl, HP.out, HM.out⟩
end Go.Proofs.Ytjmhepipkmbbmaa
