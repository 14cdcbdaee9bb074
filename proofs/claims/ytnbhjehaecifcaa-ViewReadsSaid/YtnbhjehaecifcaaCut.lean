/- put: a list with others in place of some of it. -/
import Derived.Test.YtnbhjehaecifcaaPut
namespace Go.Proofs.Ytnbhjehaecifcaa
open Go.RowKit

/-- What append leaves where there is no room: something new. -/
theorem Row.append_full {w : World} {size : Nat} {A : Option Addr} {n cap : Nat} {xs : List Value} (h : Row w size (.slice A n cap) n xs) (t ty e : TypeId) (i : TypeInfo) (z : Value) (bytes : Nat) (ht : Try.prog.underlying t = some (.slice e)) (hi : Try.prog.info? e = some i) (hz : i.zero = some z)
    (hsize : i.size = size) (hby : i.bytes = bytes) (hzs : z.cells.size = size) (hsz : 0 < size)
    (ad : Addr) (m c : Nat) (news : List Value) (hl : news.length = m * size) (hnews : ∀ j u, news[j]? = some u → w.cell? (ad.add j) = some u) (h1 : ∀ u ∈ news, u.oneCell' = true) (hm : 0 < m) (hfull : cap < n + m)
    (h63 : n + m ≤ maxLen) (hbytes : (n + m) * bytes ≤ 140737488355328) :
    ∃ v' w', (Builtin.append_ #[t, t] ty #[.slice A n cap, .slice (some ad) m c]).run Try.prog w = .ok v' w' ∧ Row w' size v' (n + m) (xs ++ news) ∧ Below w.heap.size w w' ∧ ∀ g, blk v' = some g → w.heap.size ≤ g := by
  obtain ⟨v', w', hr, hrow, _, hm', hbk, _⟩ := h.append t ty e i z bytes ht hi hz hsize hby hzs hsz ad m c news hl hnews h1 hm h63 hbytes
  refine ⟨v', w', hr, hrow, ?_⟩
  rcases h.is with ⟨e0, h0⟩ | ⟨g, off, cap', e0, hg, hnc, hcm, hcells, _⟩
  · injection e0 with e1 _ _
    subst e1
    refine ⟨hm'.to_below (fun i _ h => by cases h), fun g hg => ?_⟩
    rcases hbk with h2 | ⟨g', h2, h3⟩
    · rw [hg] at h2; cases h2
    · rw [hg] at h2; injection h2 with h2; omega
  · injection e0 with e1 _ e3
    subst e1 e3
    subst hsize
    subst hby
    have hgr := run_append_grow (P := Try.prog) w t ty e i z ht hi hz ⟨g, off, none⟩ n cap xs h.length (fun j u hu => by rw [add_plain]; exact hcells j u hu) ad m c news hl hnews (by omega) (by unfold maxLen at h63; omega) (growslice_fits (by unfold maxLen at h63; omega) hbytes)
    rw [hgr] at hr
    injection hr with ev ew
    subst ev ew
    exact ⟨((Below.refl _ _).drew).alloc (by simp) _, fun g' hg' => by simp [blk] at hg'; omega⟩
/-- append of members to a row without room. -/
theorem appF {w : World} {A : Option Addr} {n cap : Nat} {xs : List Value} (h : Row w 3 (.slice A n cap) n xs) (hc : cap = n) {A2 : Option Addr} {m c : Nat} {l : List Mb} (hs : IsL w A2 m c l) (hsm : n + m ≤ 100000) :
    ∃ v' w', (Builtin.append_ #[22, 22] 22 #[.slice A n cap, .slice A2 m c]).run Try.prog w = .ok v' w' ∧ Row w' 3 v' (n + m) (xs ++ mcs l) ∧ Below w.heap.size w w' ∧ ((m = 0 ∧ v' = .slice A n cap) ∨ ∀ g, blk v' = some g → w.heap.size ≤ g) := by
  obtain ⟨i, hi, hz0, hz1, hz2⟩ := info_parts infoM
  rcases Nat.eq_zero_or_pos m with h0 | h0
  · subst h0
    have hl : l = [] := List.eq_nil_of_length_eq_zero hs.length
    subst hl
    refine ⟨.slice A n cap, w, ?_, by simpa [mcs] using h, Below.refl _ _, .inl ⟨rfl, rfl⟩⟩
    cases A2 with
    | none => exact append_nil h _ _ _ i Try.underlying22 hi c
    | some ad => exact append_zero h _ _ _ i Try.underlying22 hi ad c
  · obtain ⟨g, off, rfl, _, hcl⟩ := isL_mcs hs h0
    obtain ⟨v', w', a1, a2, a3, a4⟩ := h.append_full 22 22 43 i _ 24 Try.underlying22 hi hz0 hz1 hz2 rfl (by decide) ⟨g, off, none⟩ m c (mcs l) (by rw [mcs_length, hs.length]) hcl (mcs_one' l) h0 (by omega) (by unfold maxLen; omega) (by omega)
    exact ⟨v', w', a1, a2, a3, .inr a4⟩
/-- Both appends of put: others behind the first, and the rest behind them. -/
theorem put_runs {w : World} {A : Option Addr} {i : Nat} {xs : List Value} (h : Row w 3 (.slice A i i) i xs) {A2 : Option Addr} {k c2 : Nat} {lo : List Mb} (ho : IsL w A2 k c2 lo) {A3 : Option Addr} {m c3 : Nat} {lr : List Mb} (hr : IsL w A3 m c3 lr) (hs : i + k + m ≤ 100000) :
    ∃ v1 w1 v2 w2, (Builtin.append_ #[22, 22] 22 #[.slice A i i, .slice A2 k c2]).run Try.prog w = .ok v1 w1 ∧ (Builtin.append_ #[22, 22] 22 #[v1, .slice A3 m c3]).run Try.prog w1 = .ok v2 w2 ∧
      Below w.heap.size w w1 ∧ Below w.heap.size w w2 ∧ Row w2 3 v2 (i + k + m) (xs ++ mcs lo ++ mcs lr) ∧ ∀ g, blk v2 = some g → blk (.slice A i i) = some g ∨ w.heap.size ≤ g := by
  obtain ⟨v1, w1, e1, r1, b1, n1⟩ := appF h rfl ho (by omega)
  rcases n1 with ⟨h0, rfl⟩ | n1
  · subst h0
    have hl : lo = [] := List.eq_nil_of_length_eq_zero ho.length
    subst hl
    obtain ⟨v2, w2, e2, r2, b2, n2⟩ := appF (w := w1) (A := A) (n := i) (cap := i) (xs := xs ++ mcs []) r1 rfl (hr.below b1) (by omega)
    refine ⟨_, w1, v2, w2, e1, e2, b1, bnext b1 b2, r2, fun g hg => ?_⟩
    rcases n2 with ⟨_, rfl⟩ | n2
    · exact .inl hg
    · have := n2 g hg; have := b1.size; exact .inr (by omega)
  · obtain ⟨v2, w2, e2, r2, m2, k2⟩ := appL r1 (hr.below b1) (by omega)
    refine ⟨v1, w1, v2, w2, e1, e2, b1, m2.below b1 b1.size n1, r2, fun g hg => ?_⟩
    rcases k2 with k2 | ⟨g', k2, k3⟩
    · rw [hg] at k2; exact .inr (n1 g k2.symm)
    · rw [hg] at k2; injection k2 with k2; have := b1.size; exact .inr (by omega)
theorem isL_drop {w : World} {g off n c : Nat} {l : List Mb} (h : IsL w (some ⟨g, off, none⟩) n c l) {j : Nat} (hj : j < c) (hjn : j ≤ n) : IsL w (some ⟨g, off + j * 3, none⟩) (n - j) (c - j) (l.drop j) := by
  have := h.le
  have := h.max
  refine ⟨by rw [List.length_drop, h.length], by omega, by omega, fun h0 => ?_, fun h => by cases h⟩
  obtain ⟨g', off', e, hg, hc⟩ := h.cells (by omega)
  injection e with e
  injection e with e1 e2
  subst e1 e2
  refine ⟨g, off + j * 3, rfl, hg, fun i m hm => ?_⟩
  rw [List.getElem?_drop] at hm
  have := hc _ _ hm
  rwa [show off + (j + i) * 3 = off + j * 3 + i * 3 by omega] at this
theorem isL_none {w : World} {A : Option Addr} {c : Nat} (hc : c ≤ maxLen) (h : A = none → c = 0) : IsL w A 0 c [] := ⟨rfl, Nat.zero_le _, hc, fun h => absurd h (Nat.lt_irrefl _), h⟩
set_option maxHeartbeats 2000000 in
theorem put_some (w : World) (g off n c : Nat) (l : List Mb) (h : RowM w (some ⟨g, off, none⟩) n c l) (i j : Nat) (hij : i ≤ j) (hjn : j ≤ n) (A2 : Option Addr) (k c2 : Nat) (lo : List Mb) (ho : IsL w A2 k c2 lo) (hn : n ≤ 1000) (hk : k ≤ 1000) :
    Calls Try.prog 45 #[.slice (some ⟨g, off, none⟩) n c, .int .i64 (i : Int), .int .i64 (j : Int), .slice A2 k c2] w fun e w' => ∃ A' c', e = .returned (.slice A' (i + k + (n - j)) c') ∧ RowM w' A' (i + k + (n - j)) c' (l.take i ++ lo ++ l.drop j) ∧ Below w.heap.size w w' ∧ ∀ g', blk (.slice A' (i + k + (n - j)) c') = some g' → g' = g ∨ w.heap.size ≤ g' := by
  obtain ⟨hg, h1, h2, _⟩ := h.cells'
  have hsm : c ≤ 9223372036854775807 := by unfold maxLen at h2; omega
  have hfirst := h.first (k := i) (by omega)
  rw [mcs_take] at hfirst
  by_cases hcj : c = j
  · obtain rfl : n = c := by omega
    subst hcj
    have hr : IsL w (some ⟨g, off, none⟩) 0 0 [] := isL_none (by simp) (fun _ => rfl)
    obtain ⟨v1, w1, v2, w2, e1, e2, b1, b2, r2, n2⟩ := put_runs (w := w.drew) (hfirst.later ((Mod.refl (fun _ => False) w).drew) (fun _ _ => id)) (ho.below (Below.refl _ _).drew) (hr.below (Below.refl _ _).drew) (by omega)
    obtain ⟨A', c', ev⟩ := row_shape r2
    subst ev
    have hl0 : l.drop n = [] := List.drop_eq_nil_of_le (by rw [RowM.len h]; omega)
    rw [hl0, Nat.sub_self]
    clear hl0
    have E1 := Lib.hid e1
    have E2 := Lib.hid e2
    have R2 := Lib.hid r2
    have N2 := Lib.hid n2
    have Hb1 : Hid (Below w.heap.size w w1) := Lib.hid ((Below.refl _ _).drew.trans b1)
    have Hb2 : Hid (Below w.heap.size w w2) := Lib.hid ((Below.refl _ _).drew.trans b2)
    have hic : i ≤ n := by omega
    clear e1 e2 r2 n2 b1 b2 h hfirst hr
    go_enter Try.func45, Try.ntmps45
    go_wp2
    refine wp_region_mix (by kernel_rfl) (Cls (Abv w)) [(0, 0), (1, 0), (2, 0), (3, 0), (4, 0), (6, 0), (7, 0), (8, 0), (5, 1), (9, 1), (10, 0)] (by kernel_rfl) (cls (Below.refl _ _).drew) ?_
    repeat (refine mix0 rfl (fun K hK => ?_); go_simp; refine hK _ ?_; clear hK K)
    refine mix_append rfl rfl (.tmp 12) (.tmp 13) 22 rfl E1.out (cls Hb1.out) ?_
    refine mix_append rfl rfl (.tmp 14) (.tmp 17) 22 rfl E2.out (cls Hb2.out) ?_
    repeat (refine mix0 rfl (fun K hK => ?_); go_simp; refine hK _ ?_; clear hK K)
    refine mixEnd ?_
    go_wp2
    go_ret
    exact ⟨A', c', rfl, by show Row w2 3 _ _ _; rw [mcs_append, mcs_append]; exact R2.out, Hb2.out, fun g' hg' => by
      rcases N2.out g' hg' with h1 | h1
      · simp [blk] at h1; exact .inl h1.symm
      · exact .inr h1⟩
  · have hr := isL_drop h.isL (j := j) (by omega) hjn
    obtain ⟨v1, w1, v2, w2, e1, e2, b1, b2, r2, n2⟩ := put_runs (w := w.drew) (hfirst.later ((Mod.refl (fun _ => False) w).drew) (fun _ _ => id)) (ho.below (Below.refl _ _).drew) (hr.below (Below.refl _ _).drew) (by omega)
    obtain ⟨A', c', ev⟩ := row_shape r2
    subst ev
    have E1 := Lib.hid e1
    have E2 := Lib.hid e2
    have R2 := Lib.hid r2
    have N2 := Lib.hid n2
    have Hb1 : Hid (Below w.heap.size w w1) := Lib.hid ((Below.refl _ _).drew.trans b1)
    have Hb2 : Hid (Below w.heap.size w w2) := Lib.hid ((Below.refl _ _).drew.trans b2)
    have hic : i ≤ c := by omega
    clear e1 e2 r2 n2 b1 b2 h hfirst hr
    go_enter Try.func45, Try.ntmps45
    go_wp2
    refine wp_region_mix (by kernel_rfl) (Cls (Abv w)) [(0, 0), (1, 0), (2, 0), (3, 0), (4, 0), (6, 0), (7, 0), (8, 0), (5, 1), (9, 1), (10, 0)] (by kernel_rfl) (cls (Below.refl _ _).drew) ?_
    repeat (refine mix0 rfl (fun K hK => ?_); go_simp; refine hK _ ?_; clear hK K)
    refine mix_append rfl rfl (.tmp 12) (.tmp 13) 22 rfl E1.out (cls Hb1.out) ?_
    refine mix_append rfl rfl (.tmp 14) (.tmp 17) 22 rfl E2.out (cls Hb2.out) ?_
    repeat (refine mix0 rfl (fun K hK => ?_); go_simp; refine hK _ ?_; clear hK K)
    refine mixEnd ?_
    go_wp2
    go_ret
    exact ⟨A', c', rfl, by show Row w2 3 _ _ _; rw [mcs_append, mcs_append]; exact R2.out, Hb2.out, fun g' hg' => by
      rcases N2.out g' hg' with h1 | h1
      · simp [blk] at h1; exact .inl h1.symm
      · exact .inr h1⟩
/-- .. of no list. -/
theorem put_none (w : World) (A2 : Option Addr) (k c2 : Nat) (lo : List Mb) (ho : IsL w A2 k c2 lo) (hk : k ≤ 1000) :
    Calls Try.prog 45 #[.slice none 0 0, .int .i64 0, .int .i64 0, .slice A2 k c2] w fun e w' => ∃ A' c', e = .returned (.slice A' k c') ∧ RowM w' A' k c' lo ∧ Below w.heap.size w w' ∧ ∀ g', blk (.slice A' k c') = some g' → w.heap.size ≤ g' := by
  have hr : IsL w none 0 0 [] := isL_none (by simp) (fun _ => rfl)
  obtain ⟨v1, w1, v2, w2, e1, e2, b1, b2, r2, n2⟩ := put_runs (w := w.drew) (row_nil w.drew 3) (ho.below (Below.refl _ _).drew) (hr.below (Below.refl _ _).drew) (by omega)
  simp only [Nat.zero_add, Nat.add_zero, List.nil_append, mcs, List.append_nil] at e2 r2 n2
  obtain ⟨A', c', ev⟩ := row_shape r2
  subst ev
  have E1 := Lib.hid e1
  have E2 := Lib.hid e2
  have R2 := Lib.hid r2
  have N2 := Lib.hid n2
  have Hb1 : Hid (Below w.heap.size w w1) := Lib.hid ((Below.refl _ _).drew.trans b1)
  have Hb2 : Hid (Below w.heap.size w w2) := Lib.hid ((Below.refl _ _).drew.trans b2)
  clear e1 e2 r2 n2 b1 b2 hr
  go_enter Try.func45, Try.ntmps45
  go_wp2
  refine wp_region_mix (by kernel_rfl) (Cls (Abv w)) [(0, 0), (1, 0), (2, 0), (3, 0), (4, 0), (6, 0), (7, 0), (8, 0), (5, 1), (9, 1), (10, 0)] (by kernel_rfl) (cls (Below.refl _ _).drew) ?_
  repeat (refine mix0 rfl (fun K hK => ?_); go_simp; refine hK _ ?_; clear hK K)
  refine mix_append rfl rfl (.tmp 12) (.tmp 13) 22 rfl E1.out (cls Hb1.out) ?_
  refine mix_append rfl rfl (.tmp 14) (.tmp 17) 22 rfl E2.out (cls Hb2.out) ?_
  repeat (refine mix0 rfl (fun K hK => ?_); go_simp; refine hK _ ?_; clear hK K)
  refine mixEnd ?_
  go_wp2
  go_ret
  exact ⟨A', c', rfl, R2.out, Hb2.out, fun g' hg' => by
    rcases N2.out g' hg' with h1 | h1
    · cases h1
    · exact h1⟩
/-- .. of any. -/
theorem put_any (w : World) (A : Option Addr) (n c : Nat) (l : List Mb) (h : RowM w A n c l) (i j : Nat) (hij : i ≤ j) (hjn : j ≤ n) (A2 : Option Addr) (k c2 : Nat) (lo : List Mb) (ho : IsL w A2 k c2 lo) (hn : n ≤ 1000) (hk : k ≤ 1000) :
    Calls Try.prog 45 #[.slice A n c, .int .i64 (i : Int), .int .i64 (j : Int), .slice A2 k c2] w fun e w' => ∃ A' c', e = .returned (.slice A' (i + k + (n - j)) c') ∧ RowM w' A' (i + k + (n - j)) c' (l.take i ++ lo ++ l.drop j) ∧ Below w.heap.size w w' ∧ ∀ g', blk (.slice A' (i + k + (n - j)) c') = some g' → blk (.slice A n c) = some g' ∨ w.heap.size ≤ g' := by
  rcases h.is with ⟨e, h0⟩ | ⟨g, off, cap, e, _⟩
  · injection e with e1 e2 e3
    subst e1 e2 e3
    obtain rfl : j = 0 := by omega
    obtain rfl : i = 0 := by omega
    have hl : l = [] := List.eq_nil_of_length_eq_zero (RowM.len h)
    subst hl
    refine (put_none w A2 k c2 lo ho hk).mono ?_
    rintro e w' ⟨A', c', rfl, r, b, nb⟩
    simp only [Nat.zero_add, Nat.sub_self, Nat.add_zero, List.take_nil, List.nil_append, List.drop_nil, List.append_nil]
    exact ⟨A', c', rfl, r, b, fun g' hg' => .inr (nb g' hg')⟩
  · injection e with e1 e2 e3
    subst e1 e3
    refine (put_some w g off n c l h i j hij hjn A2 k c2 lo ho hn hk).mono ?_
    rintro e w' ⟨A', c', rfl, r, b, nb⟩
    exact ⟨A', c', rfl, r, b, fun g' hg' => by
      rcases nb g' hg' with h1 | h1
      · exact .inl (by rw [h1]; rfl)
      · exact .inr h1⟩
end Go.Proofs.Ytnbhjehaecifcaa
