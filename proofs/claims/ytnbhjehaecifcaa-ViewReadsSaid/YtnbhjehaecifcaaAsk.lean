
/- What is asked of numbers, of members, of lists: order, rising, which are wrong. -/
import Derived.Test.YtnbhjehaecifcaaInc
namespace Go.Proofs.Ytnbhjehaecifcaa
open Go.RowKit

def thereB (V : Vw) (node : Int) : Bool := decide (0 ≤ node) && decide (node < V.nodes)
theorem there_any (w : World) (x : Vx) (V : Vw) (hv : x.nodes = V.nodes) (node : Int) :
    Calls Try.prog 40 #[vV x, .int .i64 node] w fun e w' => e = .returned (.bool (thereB V node)) ∧ Below w.heap.size w w' := by
  by_cases h0 : 0 ≤ node
  · have Hp : Hid (thereB V node = decide (node < x.nodes)) := Lib.hid (by rw [hv]; simp [thereB, h0])
    clear hv
    go_enter Try.func40, Try.ntmps40
    go_wp2
    go_ret
    exact ⟨ret_bool Hp.out.symm, (Below.refl _ _).alloc (Nat.le_refl _) _⟩
  · have Hp : Hid (thereB V node = false) := Lib.hid (by simp [thereB, h0])
    clear hv
    go_enter Try.func40, Try.ntmps40
    go_wp2
    go_ret
    exact ⟨ret_bool Hp.out.symm, (Below.refl _ _).alloc (Nat.le_refl _) _⟩
def wrongB (n : Int) : Bool := decide (n < 0) || decide (1099511627776 < n)
theorem wrong_any (n : Int) (w : World) :
    Calls Try.prog 50 #[.int .i64 n] w fun e w' => e = .returned (.bool (wrongB n)) ∧ w = w' := by
  by_cases h0 : n < 0
  · have Hp : Hid (wrongB n = true) := Lib.hid (by simp [wrongB, h0])
    go_enter Try.func50, Try.ntmps50
    go_wp2
    go_ret
    exact ⟨ret_bool Hp.out.symm, rfl⟩
  · have Hp : Hid (wrongB n = decide (1099511627776 < n)) := Lib.hid (by simp [wrongB, h0])
    have h1 : decide (n < 0) = false := by simpa using h0
    go_enter Try.func50, Try.ntmps50
    go_wp2
    go_ret
    exact ⟨ret_bool Hp.out.symm, rfl⟩
set_option maxHeartbeats 1000000 in
theorem findI_any (w : World) (A : Option Addr) (n c : Nat) (l : List Int) (h : IsI w A n c l) :
    Calls Try.prog 66 #[.slice A n c, .func (.func 50) #[] #[]] w fun e w' => e = .returned (.int .i64 (l.findIdx wrongB : Nat)) ∧ w = w' := by
  have hn := h.small
  have Hh := Lib.hid h
  obtain ⟨F, HF⟩ : ∃ F, Hid (l.findIdx wrongB = F) := ⟨_, Lib.hid rfl⟩
  rw [HF.out]
  clear h
  go_enter Try.func66, Try.ntmps66
  go_wp2
  go_loop [5, 6, 9] (fun _ _ i => ∃ k : Nat, i = .int .i64 (k : Int) ∧ k ≤ n ∧ Hid (k ≤ F)) (fun _ _ i => n - (intOf i).toNat)
  case atStart => exact ⟨0, rfl, Nat.zero_le _, Lib.hid (Nat.zero_le _)⟩
  case round =>
    obtain ⟨i, rfl, hi, HI⟩ := hrel
    by_cases hlt : i < n
    · obtain ⟨g, off, rfl, hg, hc⟩ := Hh.out.cells (by omega)
      obtain ⟨m, hm⟩ : ∃ m, l[i]? = some m := ⟨_, List.getElem?_eq_getElem (by rw [Hh.out.length]; exact hlt)⟩
      have c0 := hc i m hm
      have Hm := Lib.hid hm
      clear hc hm
      go_wp2_with fail
      refine (wrong_any m _).mono ?_
      rintro e w2 ⟨rfl, rfl⟩
      cases hpm : wrongB m with
      | true =>
        have HI2 : Hid (F = i) := Lib.hid (by rw [← HF.out]; exact fi_stop (by rw [HF.out]; exact HI.out) Hm.out hpm)
        clear hpm
        go_wp2
        go_ret
        exact ⟨ret_int (congrArg (fun n : Nat => (n : Int)) HI2.out.symm), rfl⟩
      | false =>
        have HI2 : Hid (i + 1 ≤ F) := Lib.hid (by rw [← HF.out]; exact fi_step (by rw [HF.out]; exact HI.out) Hm.out hpm)
        clear hpm
        go_wp2
        go_round
        case rel => exact ⟨i + 1, by go_num, by omega, HI2⟩
        case measure => simp [intOf]; omega
    · obtain rfl : i = n := by omega
      have HI2 : Hid (F = i) := Lib.hid (by rw [← HF.out]; exact fi_end Hh.out.length (by rw [HF.out]; exact HI.out))
      go_wp2
      go_ret
      exact ⟨ret_int (congrArg (fun n : Nat => (n : Int)) HI2.out.symm), rfl⟩
theorem someI_any (w : World) (A : Option Addr) (n c : Nat) (l : List Int) (h : IsI w A n c l) :
    Calls Try.prog 51 #[.slice A n c, .func (.func 50) #[] #[]] w fun e w' => e = .returned (.bool (l.any wrongB)) ∧ w = w' := by
  have hn := h.small
  obtain ⟨F, HF⟩ : ∃ F, Hid (l.findIdx wrongB = F) := ⟨_, Lib.hid rfl⟩
  have Hd : Hid (decide (F < n) = l.any wrongB) := Lib.hid (by rw [← HF.out, ← h.length, Bool.eq_iff_iff, decide_eq_true_eq]; exact fi_some l wrongB)
  have Hf := Lib.hid (findI_any w A n c l h)
  clear h
  go_enter Try.func51, Try.ntmps51
  go_wp2_with fail
  refine Hf.out.mono ?_
  rw [HF.out]
  rintro e w2 ⟨rfl, rfl⟩
  go_wp2
  go_ret
  exact ⟨ret_bool Hd.out, rfl⟩
def keyOf (node inc : Int) : Int := if node < 0 ∨ 8 ≤ node ∨ inc < 1 ∨ 1099511627776 < inc then 0 else 8 * inc + node + 1
/-! ### order -/
def cmpI (a b : Int) : Int := if a < b then -1 else if b < a then 1 else 0
theorem isNaN_any (n : Int) (w : World) : Calls Try.prog 71 #[.int .i64 n] w fun e w' => e = .returned (.bool false) ∧ w = w' := by
  have h : (n != n) = false := bne_no rfl
  go_enter Try.func71, Try.ntmps71
  go_wp2
  go_ret
  exact ⟨rfl, rfl⟩
theorem Compare_any (a b : Int) (w : World) : Calls Try.prog 70 #[.int .i64 a, .int .i64 b] w fun e w' => e = .returned (.int .i64 (cmpI a b)) ∧ w = w' := by
  by_cases h1 : a < b
  · have Hp : Hid (cmpI a b = -1) := Lib.hid (if_pos h1)
    go_enter Try.func70, Try.ntmps70
    go_wp2_with (refine (isNaN_any _ _).mono ?_; rintro e w2 ⟨rfl, rfl⟩)
    go_ret
    exact ⟨ret_int Hp.out.symm, rfl⟩
  by_cases h2 : b < a
  · have Hp : Hid (cmpI a b = 1) := Lib.hid (by unfold cmpI; rw [if_neg h1, if_pos h2])
    have h1' : decide (a < b) = false := by simpa using h1
    go_enter Try.func70, Try.ntmps70
    go_wp2_with (refine (isNaN_any _ _).mono ?_; rintro e w2 ⟨rfl, rfl⟩)
    go_ret
    exact ⟨ret_int Hp.out.symm, rfl⟩
  · have Hp : Hid (cmpI a b = 0) := Lib.hid (by unfold cmpI; rw [if_neg h1, if_neg h2])
    have h1' : decide (a < b) = false := by simpa using h1
    have h2' : decide (b < a) = false := by simpa using h2
    go_enter Try.func70, Try.ntmps70
    go_wp2_with (refine (isNaN_any _ _).mono ?_; rintro e w2 ⟨rfl, rfl⟩)
    go_ret
    exact ⟨ret_int Hp.out.symm, rfl⟩
def orI (a b : Int) : Int := if a ≠ 0 then a else b
set_option maxHeartbeats 1000000 in
theorem Or_any (g : Nat) (a b : Int) (w : World) (h0 : w.cell? ⟨g, 0, none⟩ = some (.int .i64 a)) (h1 : w.cell? ⟨g, 1, none⟩ = some (.int .i64 b)) :
    Calls Try.prog 69 #[.slice (some ⟨g, 0, none⟩) 2 2] w fun e w' => e = .returned (.int .i64 (orI a b)) ∧ w = w' := by
  have H0 := Lib.hid h0
  have H1 := Lib.hid h1
  clear h0 h1
  go_enter Try.func69, Try.ntmps69
  go_wp2
  go_loop [5, 8] (fun _ i => ∃ k : Nat, i = .int .i64 (k : Int) ∧ k ≤ 2 ∧ Hid (1 ≤ k → a = 0) ∧ Hid (2 ≤ k → b = 0)) (fun _ i => 2 - (intOf i).toNat)
  case atStart => exact ⟨0, rfl, by omega, Lib.hid (by omega), Lib.hid (by omega)⟩
  case round =>
    obtain ⟨i, rfl, hi, HA, HB⟩ := hrel
    match i, hi with
    | 0, _ =>
      have c0 := H0.out
      by_cases ha : a = 0
      · have hb : (a != 0) = false := bne_no ha
        have Ha := Lib.hid ha
        clear ha
        go_wp2
        go_round
        case rel => exact ⟨1, rfl, by omega, Lib.hid (fun _ => Ha.out), Lib.hid (by omega)⟩
        case measure => simp [intOf]
      · have hb : (a != 0) = true := bne_yes ha
        have Ha : Hid (orI a b = a) := Lib.hid (if_pos ha)
        clear ha
        go_wp2
        go_ret
        exact ⟨ret_int Ha.out.symm, rfl⟩
    | 1, _ =>
      have c1 := H1.out
      have Ha := HA.out (by omega)
      have Ho : Hid (orI a b = b) := Lib.hid (by unfold orI; rw [if_neg (by simpa using Ha)])
      clear Ha
      by_cases hb0 : b = 0
      · have hb : (b != 0) = false := bne_no hb0
        have Hb := Lib.hid hb0
        clear hb0
        go_wp2
        go_round
        case rel => exact ⟨2, rfl, by omega, Lib.hid (fun _ => HA.out (by omega)), Lib.hid (fun _ => Hb.out)⟩
        case measure => simp [intOf]
      · have hb : (b != 0) = true := bne_yes hb0
        clear hb0
        go_wp2
        go_ret
        exact ⟨ret_int Ho.out.symm, rfl⟩
    | 2, _ =>
      have Ho : Hid (orI a b = 0) := Lib.hid (by unfold orI; rw [if_neg (by simpa using HA.out (by omega))]; exact HB.out (by omega))
      go_wp2
      go_ret
      exact ⟨ret_int Ho.out.symm, rfl⟩
def ordI (a b : Mb) : Int := orI (cmpI a.1 b.1) (cmpI a.2.1 b.2.1)
set_option maxHeartbeats 1000000 in
theorem order_any (a b : Mb) (w : World) :
    Calls Try.prog 67 #[mbV a, mbV b] w fun e w' => e = .returned (.int .i64 (ordI a b)) ∧ Below w.heap.size w w' := by
  go_enter Try.func67, Try.ntmps67
  go_wp2
  obtain ⟨w1, Hw1⟩ : ∃ w1, Hid ((w.alloc (.cells #[.int .i64 a.1, .int .i64 a.2.1, .bool a.2.2] 43)).alloc (.cells #[.int .i64 b.1, .int .i64 b.2.1, .bool b.2.2] 43) = w1) := ⟨_, Lib.hid rfl⟩
  obtain ⟨p, Hp⟩ : ∃ p, Hid (w.heap.size = p) := ⟨_, Lib.hid rfl⟩
  have HA : Hid (BoxM w1 p a) := Lib.hid (by rw [← Hw1.out, ← Hp.out]; exact (BoxM.new w a).below ((Below.refl _ _).alloc (Nat.le_refl _) _))
  have HB : Hid (BoxM w1 (p + 1) b) := Lib.hid (by
    have := BoxM.new (w.alloc (.cells #[.int .i64 a.1, .int .i64 a.2.1, .bool a.2.2] 43)) b
    rw [Hw1.out] at this
    simpa [Hp.out] using this)
  have Hb1 : Hid (Below w.heap.size w w1) := Lib.hid (by rw [← Hw1.out]; exact balloc ((Below.refl _ _).alloc (Nat.le_refl _) _) _)
  rw [Hw1.out, Hp.out]
  have c0 : ∀ y : In (Abv w1), y.u.cell? ⟨p, 0, none⟩ = some (.int .i64 a.1) := fun y => (HA.out.below y.is).cells.1
  have c1 : ∀ y : In (Abv w1), y.u.cell? ⟨p, 1, none⟩ = some (.int .i64 a.2.1) := fun y => (HA.out.below y.is).cells.2.1
  have d0 : ∀ y : In (Abv w1), y.u.cell? ⟨p + 1, 0, none⟩ = some (.int .i64 b.1) := fun y => (HB.out.below y.is).cells.1
  have d1 : ∀ y : In (Abv w1), y.u.cell? ⟨p + 1, 1, none⟩ = some (.int .i64 b.2.1) := fun y => (HB.out.below y.is).cells.2.1
  refine wp_region_mix (by kernel_rfl) (Cls (Abv w1)) [(0, 0), (1, 0), (2, 0), (3, 0), (5, 0), (6, 0), (7, 0), (8, 0), (4, 1), (9, 1), (10, 1), (11, 1), (12, 0)] (by kernel_rfl) (cls (Below.refl _ _).drew) ?_
  repeat (refine mix0 rfl (fun K hK => ?_); go_simp; refine hK _ ?_; clear hK K)
  refine mix1 rfl (fun K hK => ?_)
  go_simp
  refine (Compare_any _ _ _).mono ?_
  rintro e w2 ⟨rfl, rfl⟩
  refine ⟨_, rfl, hK _ _ (cls (Below.refl _ _).drew) ?_⟩
  clear hK K
  refine mix1 rfl (fun K hK => ?_)
  go_simp
  refine (Compare_any _ _ _).mono ?_
  rintro e w2 ⟨rfl, rfl⟩
  refine ⟨_, rfl, hK _ _ (cls (Below.refl _ _).drew) ?_⟩
  clear hK K
  refine mix1 rfl (fun K hK => ?_)
  go_simp
  refine hK _ _ (cls (((Below.refl _ _).drew).alloc (by simp) _)) ?_
  clear hK K
  refine mix1 rfl (fun K hK => ?_)
  go_simp
  refine (Or_any _ (cmpI a.1 b.1) (cmpI a.2.1 b.2.1) _ (by simp [go_sem]) (by simp [go_sem])).mono ?_
  rintro e w2 ⟨rfl, rfl⟩
  refine ⟨_, rfl, hK _ _ (cls (((Below.refl _ _).drew).alloc (by simp) _)) ?_⟩
  clear hK K
  repeat (refine mix0 rfl (fun K hK => ?_); go_simp; refine hK _ ?_; clear hK K)
  refine mixEnd ?_
  clear c0 c1 d0 d1
  go_wp2
  go_ret
  exact ⟨rfl, Hb1.out.trans ((((Below.refl w1.heap.size w1).drew).alloc (by simp) _).mono Hb1.out.size)⟩
end Go.Proofs.Ytnbhjehaecifcaa
