/- The document's pulse as it lies in memory, and what its calls do. -/
import Derived.Test.YtjmhepipkmbbmaaOwn7
namespace Go.Proofs.Ytjmhepipkmbbmaa
open Go.RowKit

/-- The document's pulse: its limit, the ticks so far, and when each node was heard of last. -/
structure RS where
  lim : Int
  now : Int
  at_ : Nat → Int
/-- The document's pulse in block c. -/
structure IsR (w : World) (c : Nat) (r : RS) : Prop where
  lim : w.cell? ⟨c, 0, none⟩ = some (.int .i64 r.lim)
  now : w.cell? ⟨c, 1, none⟩ = some (.int .i64 r.now)
  at_ : ∀ k, k < 8 → w.cell? ⟨c, 2 + k, none⟩ = some (.int .i64 (r.at_ k))
  free : ∀ o, o < 10 → w.frozen? ⟨c, o, none⟩ = false
theorem IsR.lt {w : World} {c : Nat} {r : RS} (h : IsR w c r) : c < w.heap.size := lt_of_cell h.lim
theorem IsR.later {S : Nat → Prop} {w w' : World} {b : Nat} {s : RS} (h : IsR w b s) (m : Mod S w w') (hs : ¬ S b) : IsR w' b s :=
  ⟨(m.cell (p := ⟨b, 0, none⟩) h.lt hs).trans h.lim, (m.cell (p := ⟨b, 1, none⟩) h.lt hs).trans h.now, fun k hk => (m.cell (p := ⟨b, 2 + k, none⟩) h.lt hs).trans (h.at_ k hk),
    fun o ho => (m.frozen (p := ⟨b, o, none⟩) h.lt hs).trans (h.free o ho)⟩
theorem IsR.below {w w' : World} {b : Nat} {s : RS} (h : IsR w b s) (m : Below w.heap.size w w') : IsR w' b s := h.later (Mod.of_below (S := fun _ => False) m) id
def RS.put (r : RS) (k : Nat) (v : Int) : RS := ⟨r.lim, r.now, fun j => if j = k then v else r.at_ j⟩
theorem IsR.put {w : World} {c : Nat} {r : RS} (h : IsR w c r) {k : Nat} (hk : k < 8) (v : Int) : IsR (w.setCell ⟨c, 2 + k, none⟩ (.int .i64 v)) c (r.put k v) := by
  refine ⟨set_other (by simp; try omega) h.lim, set_other (by simp; try omega) h.now, fun j hj => ?_, fun o ho => set_frozen (h.free o ho)⟩
  by_cases e : j = k
  · subst e
    simp only [RS.put, if_pos]
    exact set_same (h.at_ j hj)
  · simp only [RS.put, if_neg e]
    exact set_other (by simp; try omega) (h.at_ j hj)
/-- As New makes it, k nodes told. -/
def RS.newTo (l : Int) (k : Nat) : RS := ⟨mostP l, 0, fun j => if j < k then -1 else 0⟩
theorem IsR.newTo {w : World} {c : Nat} {l : Int} {k : Nat} (h : IsR w c (RS.newTo l k)) (hk : k < 8) : IsR (w.setCell ⟨c, 2 + k, none⟩ (.int .i64 (-1))) c (RS.newTo l (k + 1)) := by
  have h2 := h.put hk (-1)
  have e : (RS.newTo l k).put k (-1) = RS.newTo l (k + 1) := by
    simp only [RS.put, RS.newTo, RS.mk.injEq, true_and]
    funext j
    by_cases e1 : j = k
    · simp [e1]
    · by_cases e2 : j < k
      · rw [if_neg e1, if_pos e2, if_pos (by omega)]
      · rw [if_neg e1, if_neg e2, if_neg (by omega)]
  rw [e] at h2
  exact h2
def rsC (l : Int) : Array Value := #[.int .i64 l, .int .i64 0, .int .i64 0, .int .i64 0, .int .i64 0, .int .i64 0, .int .i64 0, .int .i64 0, .int .i64 0, .int .i64 0]
theorem isR_new (w : World) (l : Int) (t : TypeId) : IsR (w.alloc (.cells (rsC (mostP l)) t)) w.heap.size (RS.newTo l 0) := by
  refine ⟨?_, ?_, ?_, ?_⟩
  · simp [go_sem, rsC, RS.newTo]
  · simp [go_sem, rsC, RS.newTo]
  · intro k hk
    match k, hk with
    | 0, _ | 1, _ | 2, _ | 3, _ | 4, _ | 5, _ | 6, _ | 7, _ => simp [go_sem, rsC, RS.newTo]
  · intro o ho
    simp [go_sem]
def RS.new (l : Int) : RS := RS.newTo l 8
set_option maxHeartbeats 1000000 in
theorem NewR_any (w : World) (l : Int) :
    Calls Try.prog 10 #[.int .i64 l] w fun e w' => ∃ c, e = .returned (.pointer (some ⟨c, 0, none⟩)) ∧ IsR w' c (RS.new l) ∧ Below w.heap.size w w' ∧ w.heap.size ≤ c := by
  rcases (show (l < 1 ∧ mostP l = 1) ∨ (1 ≤ l ∧ l ≤ 1000 ∧ mostP l = l) ∨ (1000 < l ∧ mostP l = 1000) by unfold mostP; omega) with ⟨h1, hm⟩ | ⟨h1, h2, hm⟩ | ⟨h1, hm⟩
  · have Hr := Lib.hid (isR_new w l 34)
    rw [hm] at Hr
    clear hm
    go_enter Try.func10, Try.ntmps10
    go_wp2
    go_loopw [4] (fun iv wr => ∃ k : Nat, iv = .int .i64 (k : Int) ∧ k ≤ 8 ∧ Hid (IsR wr w.heap.size (RS.newTo l k)) ∧ Hid (Below w.heap.size w wr)) (fun iv _ => 8 - (intOf iv).toNat)
    case atStart => exact ⟨0, rfl, by omega, Hr, Lib.hid (balloc (Below.refl _ _) _)⟩
    case round =>
      obtain ⟨k, rfl, hk, HR, HB⟩ := hrel
      by_cases hlt : k < 8
      · have hlt' : (k : Int) < 8 := by omega
        have c1 := HR.out.at_ k hlt
        have f1 := HR.out.free (2 + k) (by omega)
        go_wp2
        go_roundw
        case rel => exact ⟨k + 1, by go_num, by omega, Lib.hid (HR.out.newTo hlt), Lib.hid (HB.out.setCell (Nat.le_refl _) _)⟩
        case measure => simp [intOf]; omega
      · obtain rfl : k = 8 := by omega
        go_wp2
        go_ret
        exact ⟨_, rfl, HR.out, HB.out, Nat.le_refl _⟩
  · have h3 : ¬ l < 1 := by omega
    have h4 : ¬ 1000 < l := by omega
    have Hr := Lib.hid (isR_new w l 34)
    rw [hm] at Hr
    clear hm
    go_enter Try.func10, Try.ntmps10
    go_wp2
    go_loopw [4] (fun iv wr => ∃ k : Nat, iv = .int .i64 (k : Int) ∧ k ≤ 8 ∧ Hid (IsR wr w.heap.size (RS.newTo l k)) ∧ Hid (Below w.heap.size w wr)) (fun iv _ => 8 - (intOf iv).toNat)
    case atStart => exact ⟨0, rfl, by omega, Hr, Lib.hid (balloc (Below.refl _ _) _)⟩
    case round =>
      obtain ⟨k, rfl, hk, HR, HB⟩ := hrel
      by_cases hlt : k < 8
      · have hlt' : (k : Int) < 8 := by omega
        have c1 := HR.out.at_ k hlt
        have f1 := HR.out.free (2 + k) (by omega)
        go_wp2
        go_roundw
        case rel => exact ⟨k + 1, by go_num, by omega, Lib.hid (HR.out.newTo hlt), Lib.hid (HB.out.setCell (Nat.le_refl _) _)⟩
        case measure => simp [intOf]; omega
      · obtain rfl : k = 8 := by omega
        go_wp2
        go_ret
        exact ⟨_, rfl, HR.out, HB.out, Nat.le_refl _⟩
  · have h3 : ¬ l < 1 := by omega
    have Hr := Lib.hid (isR_new w l 34)
    rw [hm] at Hr
    clear hm
    go_enter Try.func10, Try.ntmps10
    go_wp2
    go_loopw [4] (fun iv wr => ∃ k : Nat, iv = .int .i64 (k : Int) ∧ k ≤ 8 ∧ Hid (IsR wr w.heap.size (RS.newTo l k)) ∧ Hid (Below w.heap.size w wr)) (fun iv _ => 8 - (intOf iv).toNat)
    case atStart => exact ⟨0, rfl, by omega, Hr, Lib.hid (balloc (Below.refl _ _) _)⟩
    case round =>
      obtain ⟨k, rfl, hk, HR, HB⟩ := hrel
      by_cases hlt : k < 8
      · have hlt' : (k : Int) < 8 := by omega
        have c1 := HR.out.at_ k hlt
        have f1 := HR.out.free (2 + k) (by omega)
        go_wp2
        go_roundw
        case rel => exact ⟨k + 1, by go_num, by omega, Lib.hid (HR.out.newTo hlt), Lib.hid (HB.out.setCell (Nat.le_refl _) _)⟩
        case measure => simp [intOf]; omega
      · obtain rfl : k = 8 := by omega
        go_wp2
        go_ret
        exact ⟨_, rfl, HR.out, HB.out, Nat.le_refl _⟩
def isR (r : RS) (z : Int) : Bool := nodeB z && decide (0 ≤ r.at_ z.toNat)
theorem isR_in (r : RS) {k : Nat} (hk : k < 8) : isR r (k : Int) = decide (0 ≤ r.at_ k) := by simp [isR, nodeB_yes hk]
theorem Is_any {w : World} {c : Nat} {r : RS} (h : IsR w c r) (z : Int) :
    Calls Try.prog 24 #[.pointer (some ⟨c, 0, none⟩), .int .i64 z] w fun e w' => e = .returned (.bool (isR r z)) ∧ w = w' := by
  rcases node_cases z with ⟨k, hk, rfl⟩ | hn
  · have c1 := h.at_ k hk
    rw [isR_in r hk]
    have hk1 : (k : Int) < 8 := by omega
    clear h
    go_enter Try.func24, Try.ntmps24
    go_wp2
    go_ret
    exact ⟨rfl, rfl⟩
  · have e1 : isR r z = false := by simp [isR, hn]
    rw [e1]
    clear h
    have hz : z < 0 ∨ 8 ≤ z := by simp [nodeB] at hn; omega
    rcases hz with hz | hz
    · go_enter Try.func24, Try.ntmps24
      go_wp2
      go_ret
      exact ⟨rfl, rfl⟩
    · go_enter Try.func24, Try.ntmps24
      go_wp2
      go_ret
      exact ⟨rfl, rfl⟩
def setR (r : RS) (z v : Int) : RS := if isR r z then r.put z.toNat v else r
theorem SetR_any {w : World} {c : Nat} {r : RS} (h : IsR w c r) (z v : Int) :
    Calls Try.prog 12 #[.pointer (some ⟨c, 0, none⟩), .int .i64 z, .int .i64 v] w fun e w' => e = .returned (.bool (isR r z)) ∧ IsR w' c (setR r z v) ∧ Mod (· = c) w w' := by
  have Hh := Lib.hid h
  by_cases hi : isR r z = true
  · obtain ⟨k, hk, rfl⟩ : ∃ k : Nat, k < 8 ∧ z = (k : Int) := by
      rcases node_cases z with hh | hn
      · exact hh
      · simp [isR, hn] at hi
    have c1 := h.at_ k hk
    have f1 := h.free (2 + k) (by omega)
    have Hs : Hid (setR r (k : Int) v = r.put k v) := Lib.hid (by simp [setR, hi])
    have Hi := Lib.hid hi
    rw [hi]
    clear h hi
    go_enter Try.func12, Try.ntmps12
    go_wp2_with fail
    refine (Is_any Hh.out _).mono ?_
    rw [Hi.out]
    rintro e w1 ⟨rfl, rfl⟩
    go_wp2
    go_ret
    exact ⟨rfl, by rw [Hs.out]; exact Hh.out.put hk v, (Mod.refl _ _).set1 _⟩
  · have hi' : isR r z = false := by simpa using hi
    have Hs : Hid (setR r z v = r) := Lib.hid (by simp [setR, hi'])
    have Hi := Lib.hid hi'
    rw [hi']
    clear h hi hi'
    go_enter Try.func12, Try.ntmps12
    go_wp2_with fail
    refine (Is_any Hh.out _).mono ?_
    rw [Hi.out]
    rintro e w1 ⟨rfl, rfl⟩
    go_wp2
    go_ret
    exact ⟨rfl, by rw [Hs.out]; exact Hh.out, Mod.refl _ _⟩
def watchB (r : RS) (z : Int) : Bool := nodeB z && !isR r z
def watchR (r : RS) (z : Int) : RS := if watchB r z then r.put z.toNat r.now else r
theorem WatchR_any {w : World} {c : Nat} {r : RS} (h : IsR w c r) (z : Int) :
    Calls Try.prog 14 #[.pointer (some ⟨c, 0, none⟩), .int .i64 z] w fun e w' => e = .returned (.bool (watchB r z)) ∧ IsR w' c (watchR r z) ∧ Mod (· = c) w w' := by
  have Hh := Lib.hid h
  rcases node_cases z with ⟨k, hk, rfl⟩ | hn
  · have c1 := h.at_ k hk
    have c2 := h.now
    have f1 := h.free (2 + k) (by omega)
    have hk1 : ¬ (7 : Int) < (k : Int) := by omega
    have hk2 : (k : Int) < 8 := by omega
    clear h
    cases hi : isR r (k : Int) with
    | true =>
      have Hs : Hid (watchR r (k : Int) = r) := Lib.hid (by simp [watchR, watchB, hi])
      have Hb : Hid (watchB r (k : Int) = false) := Lib.hid (by simp [watchB, hi])
      have Hi := Lib.hid hi
      clear hi
      go_enter Try.func14, Try.ntmps14
      go_wp2_with fail
      refine (Is_any Hh.out _).mono ?_
      rw [Hi.out]
      rintro e w1 ⟨rfl, rfl⟩
      go_wp2
      go_ret
      exact ⟨ret_bool Hb.out.symm, by rw [Hs.out]; exact Hh.out, Mod.refl _ _⟩
    | false =>
      have Hs : Hid (watchR r (k : Int) = r.put k r.now) := Lib.hid (by simp [watchR, watchB, hi, nodeB_yes hk])
      have Hb : Hid (watchB r (k : Int) = true) := Lib.hid (by simp [watchB, hi, nodeB_yes hk])
      have Hi := Lib.hid hi
      clear hi
      go_enter Try.func14, Try.ntmps14
      go_wp2_with fail
      refine (Is_any Hh.out _).mono ?_
      rw [Hi.out]
      rintro e w1 ⟨rfl, rfl⟩
      go_wp2_with fail
      go_region
      all_goals
        go_wp2
        go_ret
        exact ⟨ret_bool Hb.out.symm, by rw [Hs.out]; exact (Hh.out.put hk r.now).later ((Mod.refl (fun _ => False) _).drew) id, ((Mod.refl _ _).set1 _).drew⟩
  · have hi : isR r z = false := by simp [isR, hn]
    have Hs : Hid (watchR r z = r) := Lib.hid (by simp [watchR, watchB, hn])
    have Hb : Hid (watchB r z = false) := Lib.hid (by simp [watchB, hn])
    have Hi := Lib.hid hi
    clear h hi
    have hz : z < 0 ∨ 7 < z := by simp [nodeB] at hn; omega
    clear hn
    rcases hz with hz | hz
    · go_enter Try.func14, Try.ntmps14
      go_wp2_with fail
      refine (Is_any Hh.out _).mono ?_
      rw [Hi.out]
      rintro e w1 ⟨rfl, rfl⟩
      go_wp2
      go_ret
      exact ⟨ret_bool Hb.out.symm, by rw [Hs.out]; exact Hh.out, Mod.refl _ _⟩
    · go_enter Try.func14, Try.ntmps14
      go_wp2_with fail
      refine (Is_any Hh.out _).mono ?_
      rw [Hi.out]
      rintro e w1 ⟨rfl, rfl⟩
      go_wp2
      go_ret
      exact ⟨ret_bool Hb.out.symm, by rw [Hs.out]; exact Hh.out, Mod.refl _ _⟩
/-- What Quiet tells: of a node that is watched how many ticks ago, at most the limit. -/
def quietR (r : RS) (z : Int) : Int := if isR r z then min (r.now - r.at_ z.toNat) r.lim else -1
structure Fine (r : RS) : Prop where
  now0 : 0 ≤ r.now
  now1 : r.now ≤ 1000
  at0 : ∀ k, k < 8 → r.at_ k ≤ r.now
theorem QuietR_any {w : World} {c : Nat} {r : RS} (h : IsR w c r) (hf : Fine r) (z : Int) :
    Calls Try.prog 22 #[.pointer (some ⟨c, 0, none⟩), .int .i64 z] w fun e w' => e = .returned (.int .i64 (quietR r z)) ∧ Below w.heap.size w w' := by
  have Hh := Lib.hid h
  by_cases hi : isR r z = true
  · obtain ⟨k, hk, rfl⟩ : ∃ k : Nat, k < 8 ∧ z = (k : Int) := by
      rcases node_cases z with hh | hn
      · exact hh
      · simp [isR, hn] at hi
    have c1 := h.at_ k hk
    have c2 := h.now
    have c3 := h.lim
    have b0 : 0 ≤ r.at_ k := by rw [isR_in r hk] at hi; simpa using hi
    have b1 := hf.at0 k hk
    have b2 := hf.now0
    have b3 := hf.now1
    have hk2 : (k : Int) < 8 := by omega
    have Hq : Hid (quietR r (k : Int) = min (r.now - r.at_ k) r.lim) := Lib.hid (by simp [quietR, hi])
    have Hi := Lib.hid hi
    obtain ⟨x, Hx⟩ : ∃ x, Hid (r.at_ k = x) := ⟨_, Lib.hid rfl⟩
    rw [Hx.out] at c1 b0 b1 Hq
    clear h hi
    by_cases hl : r.lim < r.now - x
    · go_enter Try.func22, Try.ntmps22
      go_wp2_with fail
      refine (Is_any Hh.out _).mono ?_
      rw [Hi.out]
      rintro e w1 ⟨rfl, rfl⟩
      go_wp2_with fail
      go_quiet (fail)
      go_wp2
      go_ret
      exact ⟨ret_int (by rw [Hq.out]; omega), below_drewN _ _⟩
    · go_enter Try.func22, Try.ntmps22
      go_wp2_with fail
      refine (Is_any Hh.out _).mono ?_
      rw [Hi.out]
      rintro e w1 ⟨rfl, rfl⟩
      go_wp2_with fail
      go_quiet (fail)
      go_wp2
      go_ret
      exact ⟨ret_int (by rw [Hq.out]; omega), below_drewN _ _⟩
  · have hi' : isR r z = false := by simpa using hi
    have Hq : Hid (quietR r z = -1) := Lib.hid (by simp [quietR, hi'])
    have Hi := Lib.hid hi'
    rw [Hq.out]
    clear h hi hi'
    go_enter Try.func22, Try.ntmps22
    go_wp2_with fail
    refine (Is_any Hh.out _).mono ?_
    rw [Hi.out]
    rintro e w1 ⟨rfl, rfl⟩
    go_wp2
    go_ret
    exact ⟨rfl, Below.refl _ _⟩
end Go.Proofs.Ytjmhepipkmbbmaa
