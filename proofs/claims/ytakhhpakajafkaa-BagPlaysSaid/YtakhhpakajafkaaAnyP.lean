/- Any. -/
import Derived.Test.YtakhhpakajafkaaAny
namespace Go.Proofs.Ytakhhpakajafkaa
open Go.RowKit Go.Shelf

theorem spot {s : NS} {p : Nat} : ∀ n, p < sum s n → ∃ k j, k < n ∧ j < (s k).length ∧ p = sum s k + j
  | 0, h => by simp [sum] at h
  | n + 1, h => by
    by_cases h1 : p < sum s n
    · obtain ⟨k, j, a, c, d⟩ := spot n h1
      exact ⟨k, j, by omega, c, d⟩
    · simp only [sum] at h
      exact ⟨n, p - sum s n, by omega, by omega, by omega⟩
def pV (k : Nat) (t : List UInt8) : Value := .agg #[.int .i64 ((k : Int) / 8), .int .i64 ((k : Int) % 8), .string (str t)]
theorem Step.set {w u : World} {ρ ρ' : Nat → Role} (h : Step w ρ u ρ') {q o : Nat} (hq : w.heap.size ≤ q) (v : Value) : Step w ρ (u.setCell ⟨q, o, none⟩ v) ρ' :=
  ⟨h.mod.setCell (.inr hq) v, h.new⟩
section
variable {w : World} {b : Nat} {ρ : Nat → Role} {s : NS} {bv : Nat → Value}
theorem nettake_any (h : Nt w b ρ s bv) {k0 j0 : Nat} (hk0 : k0 < 64) (hj0 : j0 < (s k0).length) {p : Nat} (hp : p = sum s k0 + j0) :
    Calls Try.prog 37 #[.pointer (some ⟨b, 0, none⟩), .int .i64 (p : Int)] w
      (Did w b ρ (s.put k0 ((s k0).eraseIdx j0)) (.agg #[.int .i64 ((k0 : Int) / 8), .int .i64 ((k0 : Int) % 8), .string (str (nth (s k0) j0))])) := callsIn_wide.1 (nettake_in h hk0 hj0 hp)
def zeroP : Value := .agg #[.int .i64 0, .int .i64 0, .string ⟨#[]⟩]
theorem pickP_none (x : Int) (v : Value) (w : World) :
    Calls Try.prog 35 #[.int .i64 x, .int .i64 0, v] w fun e w' => e = .returned (.tuple #[zeroP, .bool false]) ∧ Below w.heap.size w w' := by
  go_enter Try.func35, Try.ntmps35
  go_wp2
  refine bodyPost_ret (v := .tuple #[zeroP, .bool false]) (by simp [results, zeroP, Try.f35, go_sem]) rfl ⟨rfl, ?_⟩
  exact balloc ((Below.refl _ _).alloc (Nat.le_refl _) _) _
theorem pickP_some (h : IsN w b ρ s) {x : Int} (hx : (Lit.int .i64 x).wf = true) {n : Nat} (hn : n = sum s 64) (h0 : 0 < n) {k j : Nat} (hk : k < 64) (hj : j < (s k).length) (hp : wh x n = sum s k + j) :
    Calls Try.prog 35 #[.int .i64 x, .int .i64 (n : Int), .func (.func 37) #[.pointer (some ⟨b, 0, none⟩)] #[]] w
      (Did w b ρ (s.put k ((s k).eraseIdx j)) (.tuple #[pV k (nth (s k) j), .bool true])) := by
  have hm := sum_le h.most 64
  have hn2 : n ≤ 12800 := by omega
  have hne : ((n : Int) == 0) = false := beq_no (by omega)
  obtain ⟨hw1, hw2⟩ := wf_bounds hx
  obtain ⟨W1, HW1⟩ : ∃ W1, Hid (w.alloc (.cells #[.int .i64 0, .int .i64 0, .string ⟨#[]⟩] 35) = W1) := ⟨_, Lib.hid rfl⟩
  have Hb1 : Hid (Below w.heap.size w W1) := Lib.hid (by rw [← HW1.out]; exact (Below.refl _ _).alloc (Nat.le_refl _) _)
  have Hh := Lib.hid (h.below Hb1.out)
  have HR : Hid (Boxed3 W1 w.heap.size 35 (.int .i64 0) (.int .i64 0) (.string ⟨#[]⟩)) := Lib.hid (by rw [← HW1.out]; exact Boxed3.new w _ _ _ _)
  have Hno : Hid (¬ ρ w.heap.size ≠ .no) := Lib.hid (fun hg => by have := h.top _ hg; omega)
  have Htop := Lib.hid h.top
  have Hp := Lib.hid hp
  obtain ⟨T, HT⟩ : ∃ T, Hid (nth (s k) j = T) := ⟨_, Lib.hid rfl⟩
  rw [HT.out]
  clear hm h hn hp
  by_cases hneg : x < 0
  · have e1 := wh_neg hneg n
    have hz : -9223372036854775808 ≤ x + 1 := by omega
    obtain ⟨q, Hq⟩ : ∃ q, Hid (wh x n = q) := ⟨_, Lib.hid rfl⟩
    rw [Hq.out] at e1
    obtain ⟨bv, hnt⟩ := Hh.out
    have Hnt := Lib.hid hnt
    clear hnt
    go_enter Try.func35, Try.ntmps35
    go_wp2_with fail
    rw [HW1.out]
    refine (nettake_any Hnt.out hk hj (by rw [← Hq.out]; exact Hp.out)).mono ?_
    rw [HT.out]
    rintro e w2 ⟨rfl, ρ', hN2, hS2⟩
    have hR2 := HR.out.kept hS2.mod Hno.out
    have c0 := hR2.cell0
    have c1 := hR2.cell1
    have c2 := hR2.cell2
    have f0 := hR2.frozen 0
    have f1 := hR2.frozen 1
    have f2 := hR2.frozen 2
    have HN2 := Lib.hid hN2
    have HS2 := Lib.hid hS2
    have HR2 := Lib.hid hR2
    clear hN2 hS2 hR2
    go_wp2
    have hR3 := HR2.out.set (.int .i64 ((k : Int) / 8)) (.int .i64 ((k : Int) % 8)) (.string (str T))
    have d0 := hR3.cell0
    have d1 := hR3.cell1
    have d2 := hR3.cell2
    refine bodyPost_ret (v := .tuple #[pV k T, .bool true]) ?_ rfl ⟨rfl, ρ', ?_, ?_⟩
    · simp [results, pV, Try.f35, go_sem, d0, d1, d2]
    · refine HN2.out.later (S := (· = w.heap.size)) ((((Mod.refl _ _).set1 _).set1 _).set1 _) (fun g e => ?_)
      subst e
      have h1 := HS2.out.new w.heap.size (by rw [← HW1.out]; simp)
      cases hr : ρ' w.heap.size with
      | no => rfl
      | _ => exact absurd (h1 (by rw [hr]; intro e; cases e)) Hno.out
    · exact ((((Step.of_below ρ Hb1.out).trans HS2.out).set (Nat.le_refl _) _).set (Nat.le_refl _) _).set (Nat.le_refl _) _
  · have e1 := wh_pos (show 0 ≤ x by omega) n
    obtain ⟨q, Hq⟩ : ∃ q, Hid (wh x n = q) := ⟨_, Lib.hid rfl⟩
    rw [Hq.out] at e1
    obtain ⟨bv, hnt⟩ := Hh.out
    have Hnt := Lib.hid hnt
    clear hnt
    go_enter Try.func35, Try.ntmps35
    go_wp2_with fail
    rw [HW1.out]
    refine (nettake_any Hnt.out hk hj (by rw [← Hq.out]; exact Hp.out)).mono ?_
    rw [HT.out]
    rintro e w2 ⟨rfl, ρ', hN2, hS2⟩
    have hR2 := HR.out.kept hS2.mod Hno.out
    have c0 := hR2.cell0
    have c1 := hR2.cell1
    have c2 := hR2.cell2
    have f0 := hR2.frozen 0
    have f1 := hR2.frozen 1
    have f2 := hR2.frozen 2
    have HN2 := Lib.hid hN2
    have HS2 := Lib.hid hS2
    have HR2 := Lib.hid hR2
    clear hN2 hS2 hR2
    go_wp2
    have hR3 := HR2.out.set (.int .i64 ((k : Int) / 8)) (.int .i64 ((k : Int) % 8)) (.string (str T))
    have d0 := hR3.cell0
    have d1 := hR3.cell1
    have d2 := hR3.cell2
    refine bodyPost_ret (v := .tuple #[pV k T, .bool true]) ?_ rfl ⟨rfl, ρ', ?_, ?_⟩
    · simp [results, pV, Try.f35, go_sem, d0, d1, d2]
    · refine HN2.out.later (S := (· = w.heap.size)) ((((Mod.refl _ _).set1 _).set1 _).set1 _) (fun g e => ?_)
      subst e
      have h1 := HS2.out.new w.heap.size (by rw [← HW1.out]; simp)
      cases hr : ρ' w.heap.size with
      | no => rfl
      | _ => exact absurd (h1 (by rw [hr]; intro e; cases e)) Hno.out
    · exact ((((Step.of_below ρ Hb1.out).trans HS2.out).set (Nat.le_refl _) _).set (Nat.le_refl _) _).set (Nat.le_refl _) _
/-- What Any tells and leaves, where some wait. -/
def AnyDid (w : World) (b : Nat) (ρ : Nat → Role) (s : NS) (x : Int) (e : Ending) (w' : World) : Prop :=
  ∃ k j, k < 64 ∧ j < (s k).length ∧ wh x (sum s 64) = sum s k + j ∧ Did w b ρ (s.put k ((s k).eraseIdx j)) (.tuple #[pV k (nth (s k) j), .bool true]) e w'
theorem Any_some (h : IsN w b ρ s) {x : Int} (hx : (Lit.int .i64 x).wf = true) (h0 : 0 < sum s 64) :
    Calls Try.prog 14 #[.pointer (some ⟨b, 0, none⟩), .int .i64 x] w (AnyDid w b ρ s x) := by
  obtain ⟨k, j, hk, hj, hp⟩ := spot 64 (wh_lt x h0)
  refine Calls.mono (R := Did w b ρ (s.put k ((s k).eraseIdx j)) (.tuple #[pV k (nth (s k) j), .bool true])) ?_ (fun e w' h => ⟨k, j, hk, hj, hp, h⟩)
  have hm := sum_le h.most 64
  obtain ⟨n, Hn⟩ : ∃ n, Hid (sum s 64 = n) := ⟨_, Lib.hid rfl⟩
  rw [Hn.out] at hp h0 hm
  obtain ⟨W1, HW1⟩ : ∃ W1, Hid (w.alloc (.cells #[.int .i64 0, .int .i64 0, .string ⟨#[]⟩] 35) = W1) := ⟨_, Lib.hid rfl⟩
  have Hb1 : Hid (Below w.heap.size w W1) := Lib.hid (by rw [← HW1.out]; exact (Below.refl _ _).alloc (Nat.le_refl _) _)
  have Hh := Lib.hid (h.below Hb1.out)
  have HR : Hid (Boxed3 W1 w.heap.size 35 (.int .i64 0) (.int .i64 0) (.string ⟨#[]⟩)) := Lib.hid (by rw [← HW1.out]; exact Boxed3.new w _ _ _ _)
  have Hno : Hid (¬ ρ w.heap.size ≠ .no) := Lib.hid (fun hg => by have := h.top _ hg; omega)
  have Hp := Lib.hid hp
  obtain ⟨T, HT⟩ : ∃ T, Hid (nth (s k) j = T) := ⟨_, Lib.hid rfl⟩
  rw [HT.out]
  clear h hp
  go_enter Try.func14, Try.ntmps14
  go_wp2_with fail
  rw [HW1.out]
  refine (many_any Hh.out).mono ?_
  rw [Hn.out]
  rintro e w2 ⟨rfl, hb2⟩
  have Hh2 := Lib.hid (Hh.out.below hb2)
  have HR2 := Lib.hid (HR.out.kept (Mod.of_below (S := fun _ => False) hb2) id)
  have Hb2 := Lib.hid hb2
  clear hb2
  go_wp2_with fail
  refine (pickP_some Hh2.out hx Hn.out.symm h0 hk hj Hp.out).mono ?_
  rw [HT.out]
  rintro e w3 ⟨rfl, ρ', hN3, hS3⟩
  have hR3 := HR2.out.kept hS3.mod Hno.out
  have c0 := hR3.cell0
  have c1 := hR3.cell1
  have c2 := hR3.cell2
  have f0 := hR3.frozen 0
  have f1 := hR3.frozen 1
  have f2 := hR3.frozen 2
  have HN3 := Lib.hid hN3
  have HS3 := Lib.hid hS3
  have HR3 := Lib.hid hR3
  clear hN3 hS3 hR3
  unfold pV
  go_wp2
  have hR4 := HR3.out.set (.int .i64 ((k : Int) / 8)) (.int .i64 ((k : Int) % 8)) (.string (str T))
  have d0 := hR4.cell0
  have d1 := hR4.cell1
  have d2 := hR4.cell2
  refine bodyPost_ret (v := .tuple #[pV k T, .bool true]) ?_ rfl ⟨rfl, ρ', ?_, ?_⟩
  · simp [results, pV, Try.f14, go_sem, d0, d1, d2]
  · refine HN3.out.later (S := (· = w.heap.size)) ((((Mod.refl _ _).set1 _).set1 _).set1 _) (fun g e => ?_)
    subst e
    have h1 := HS3.out.new w.heap.size (by have := Hb2.out.size; have h2 : w.heap.size < W1.heap.size := by rw [← HW1.out]; simp
                                           omega)
    cases hr : ρ' w.heap.size with
    | no => rfl
    | _ => exact absurd (h1 (by rw [hr]; intro e; cases e)) Hno.out
  · exact ((((Step.of_below ρ (bnext Hb1.out Hb2.out)).trans HS3.out).set (Nat.le_refl _) _).set (Nat.le_refl _) _).set (Nat.le_refl _) _
theorem Any_none (h : IsN w b ρ s) (x : Int) (h0 : sum s 64 = 0) :
    Calls Try.prog 14 #[.pointer (some ⟨b, 0, none⟩), .int .i64 x] w (Did w b ρ s (.tuple #[zeroP, .bool false])) := by
  obtain ⟨W1, HW1⟩ : ∃ W1, Hid (w.alloc (.cells #[.int .i64 0, .int .i64 0, .string ⟨#[]⟩] 35) = W1) := ⟨_, Lib.hid rfl⟩
  have Hb1 : Hid (Below w.heap.size w W1) := Lib.hid (by rw [← HW1.out]; exact (Below.refl _ _).alloc (Nat.le_refl _) _)
  have Hh := Lib.hid (h.below Hb1.out)
  have HR : Hid (Boxed3 W1 w.heap.size 35 (.int .i64 0) (.int .i64 0) (.string ⟨#[]⟩)) := Lib.hid (by rw [← HW1.out]; exact Boxed3.new w _ _ _ _)
  have H0 := Lib.hid h0
  have Hh0 := Lib.hid h
  clear h h0
  go_enter Try.func14, Try.ntmps14
  go_wp2_with fail
  rw [HW1.out]
  refine (many_any Hh.out).mono ?_
  rw [H0.out]
  rintro e w2 ⟨rfl, hb2⟩
  have HR2 := Lib.hid (HR.out.kept (Mod.of_below (S := fun _ => False) hb2) id)
  have Hb2 := Lib.hid hb2
  clear hb2
  go_wp2_with fail
  refine (pickP_none _ _ _).mono ?_
  rintro e w3 ⟨rfl, hb3⟩
  have hR3 := HR2.out.kept (Mod.of_below (S := fun _ => False) hb3) id
  have c0 := hR3.cell0
  have c1 := hR3.cell1
  have c2 := hR3.cell2
  have f0 := hR3.frozen 0
  have f1 := hR3.frozen 1
  have f2 := hR3.frozen 2
  have HR3 := Lib.hid hR3
  have Hb3 := Lib.hid hb3
  clear hR3 hb3
  unfold zeroP
  go_wp2
  have hR4 := HR3.out.set (.int .i64 0) (.int .i64 0) (.string ⟨#[]⟩)
  have d0 := hR4.cell0
  have d1 := hR4.cell1
  have d2 := hR4.cell2
  have hbel : Below w.heap.size w w3 := bnext (bnext Hb1.out Hb2.out) Hb3.out
  refine bodyPost_ret (v := .tuple #[zeroP, .bool false]) ?_ rfl ⟨rfl, ρ, ?_, ?_⟩
  · simp [results, zeroP, Try.f14, go_sem, d0, d1, d2]
  · exact Hh0.out.below (((hbel.setCell (p := ⟨w.heap.size, 0, none⟩) (Nat.le_refl _) _).setCell (p := ⟨w.heap.size, 1, none⟩) (Nat.le_refl _) _).setCell (p := ⟨w.heap.size, 2, none⟩) (Nat.le_refl _) _)
  · exact (((Step.of_below ρ hbel).set (Nat.le_refl _) _).set (Nat.le_refl _) _).set (Nat.le_refl _) _
end
end Go.Proofs.Ytakhhpakajafkaa
