/- The closures of package queue; all claims that are so struck out of a row. -/
import Derived.Test.YthpmodohfjjjcaaRow9
namespace Go.Proofs.Ythpmodohfjjjcaa
open Go.RowKit

def ofQ (z : Int) (c : Cl) : Bool := c.1 == z
def behQ (z : Int) (c : Cl) : Bool := decide (z < c.1)
set_option maxRecDepth 100000 in
theorem of_any (w : World) (z : Int) : Calls Try.prog 87 #[.int .i64 z] w fun e w' => e = .returned (.func (.func 99) #[] #[.pointer (some ⟨w.heap.size, 0, none⟩)]) ∧ w' = w.alloc (.cells #[.int .i64 z] 3) := by
  go_enter Try.func87, Try.ntmps87
  go_wp2
  go_ret
  exact ⟨rfl, rfl⟩
set_option maxRecDepth 100000 in
theorem behind_any (w : World) (z : Int) : Calls Try.prog 97 #[.int .i64 z] w fun e w' => e = .returned (.func (.func 103) #[] #[.pointer (some ⟨w.heap.size, 0, none⟩)]) ∧ w' = w.alloc (.cells #[.int .i64 z] 3) := by
  go_enter Try.func97, Try.ntmps97
  go_wp2
  go_ret
  exact ⟨rfl, rfl⟩
set_option maxRecDepth 100000 in
theorem of_run (b : Nat) (z : Int) (u : World) (c : Cl) (h : u.cell? ⟨b, 0, none⟩ = some (.int .i64 z)) :
    Calls Try.prog 99 #[clV c, .pointer (some ⟨b, 0, none⟩)] u fun e u' => e = .returned (.bool (ofQ z c)) ∧ Below u.heap.size u u' := by
  have hb := lt_of_cell h
  go_enter Try.func99, Try.ntmps99
  go_wp2
  go_ret
  exact ⟨rfl, balloc (Below.refl _ _) _⟩
set_option maxRecDepth 100000 in
theorem behind_run (b : Nat) (z : Int) (u : World) (c : Cl) (h : u.cell? ⟨b, 0, none⟩ = some (.int .i64 z)) :
    Calls Try.prog 103 #[clV c, .pointer (some ⟨b, 0, none⟩)] u fun e u' => e = .returned (.bool (behQ z c)) ∧ Below u.heap.size u u' := by
  have hb := lt_of_cell h
  go_enter Try.func103, Try.ntmps103
  go_wp2
  go_ret
  exact ⟨rfl, balloc (Below.refl _ _) _⟩

/-! ### DeleteFunc -/
def outQ (p : Cl → Bool) (c : Cl) : Bool := !p c
def outC (p : Cl → Bool) (l : List Cl) : List Cl := l.filter (outQ p)
/-- What lies in the row, ahead of claim j, i of them kept. -/
structure Kf (p : Cl → Bool) (l cur : List Cl) (i j : Nat) : Prop where
  length : cur.length = l.length
  lt : i < j
  le : j ≤ l.length
  kept : cur.take i = outC p (l.take j)
  rest : cur.drop j = l.drop j
theorem kf_first {p : Cl → Bool} {l : List Cl} {i : Nat} {x : Cl} (hx : l[i]? = some x) (h : (l.take i).any p = false) (hp : p x = true) : Kf p l l i (i + 1) := by
  obtain ⟨hk, e⟩ := List.getElem?_eq_some_iff.1 hx
  refine ⟨rfl, by omega, by omega, ?_, rfl⟩
  rw [outC, List.take_succ_eq_append_getElem hk, e, List.filter_append]
  have h1 : (l.take i).filter (outQ p) = l.take i := List.filter_eq_self.2 fun c hc => by simp [outQ]; simpa using (List.any_eq_false.1 h) c hc
  have h2 : [x].filter (outQ p) = [] := by simp [outQ, hp]
  rw [h1, h2, List.append_nil]
theorem kf_read {p : Cl → Bool} {l cur : List Cl} {i j : Nat} (h : Kf p l cur i j) : cur[j]? = l[j]? := by
  have := congrArg (fun t => t[0]?) h.rest
  simpa [List.getElem?_drop] using this
theorem kf_out {p : Cl → Bool} {l cur : List Cl} {i j : Nat} {x : Cl} (h : Kf p l cur i j) (hx : l[j]? = some x) (hp : p x = true) : Kf p l cur i (j + 1) := by
  obtain ⟨hk, e⟩ := List.getElem?_eq_some_iff.1 hx
  have := h.lt
  refine ⟨h.length, by omega, by omega, ?_, ?_⟩
  · rw [h.kept, outC, outC, List.take_succ_eq_append_getElem hk, e, List.filter_append]
    have h2 : [x].filter (outQ p) = [] := by simp [outQ, hp]
    rw [h2, List.append_nil]
  · have := congrArg (List.drop 1) h.rest
    simpa [List.drop_drop] using this
theorem kf_in {p : Cl → Bool} {l cur : List Cl} {i j : Nat} {x : Cl} (h : Kf p l cur i j) (hx : l[j]? = some x) (hp : p x = false) : Kf p l (cur.set i x) (i + 1) (j + 1) := by
  obtain ⟨hk, e⟩ := List.getElem?_eq_some_iff.1 hx
  have h1 := h.lt
  have h2 := h.length
  refine ⟨by rw [List.length_set]; exact h2, by omega, by omega, ?_, ?_⟩
  · have hi : i < (cur.set i x).length := by rw [List.length_set]; omega
    rw [List.take_succ_eq_append_getElem hi, List.getElem_set_self, List.take_set_of_le (Nat.le_refl _), h.kept, outC, outC, List.take_succ_eq_append_getElem hk, e, List.filter_append]
    have h3 : [x].filter (outQ p) = [x] := by simp [outQ, hp]
    rw [h3]
  · rw [List.drop_set_of_lt (by omega)]
    have := congrArg (List.drop 1) h.rest
    simpa [List.drop_drop] using this
theorem kf_end {p : Cl → Bool} {l cur : List Cl} {i : Nat} (h : Kf p l cur i l.length) : cur.take i = outC p l := by rw [h.kept, List.take_length]
theorem outC_wf {p : Cl → Bool} {l : List Cl} (h : wfC l) : wfC (outC p l) := fun c hc => h c (List.mem_filter.1 hc).1
theorem outC_none {p : Cl → Bool} {l : List Cl} (h : l.any p = false) : outC p l = l := List.filter_eq_self.2 fun c hc => by simp [outQ]; simpa using (List.any_eq_false.1 h) c hc
theorem idx_some {p : Cl → Bool} {l : List Cl} (h : l.any p = true) : ∃ (i : Nat) (x : Cl), idxM p l = (i : Int) ∧ l[i]? = some x ∧ (l.take i).any p = false ∧ p x = true := by
  have hi := List.findIdx_lt_length_of_exists (p := p) (xs := l) (by simpa using List.any_eq_true.1 h)
  refine ⟨l.findIdx p, l[l.findIdx p], by simp [idxM, h], List.getElem?_eq_getElem hi, ?_, List.findIdx_getElem⟩
  rw [List.any_eq_false]
  intro c hc
  obtain ⟨k, hk, rfl⟩ := List.getElem_of_mem hc
  rw [List.length_take] at hk
  have hk2 : k < l.findIdx p := by omega
  rw [List.getElem_take]
  simpa using List.not_of_lt_findIdx hk2
set_option maxRecDepth 100000 in
set_option maxHeartbeats 2000000 in
theorem DeleteFunc_any (k : FuncId) (p : Cl → Bool) (b : Nat) (z : Value) (hcall : ∀ args u, (callFunc k args).run Try.prog u = .ok (.enter k args) u)
    (hrun : ∀ u c, u.cell? ⟨b, 0, none⟩ = some z → Calls Try.prog k #[clV c, .pointer (some ⟨b, 0, none⟩)] u fun e u' => e = .returned (.bool (p c)) ∧ Below u.heap.size u u') (w : World) (hz : w.cell? ⟨b, 0, none⟩ = some z) (v : Value) (l : List Cl) (h : RC w v l) (hb : blk v ≠ some b) :
    Calls Try.prog 89 #[v, .func (.func k) #[] #[.pointer (some ⟨b, 0, none⟩)]] w fun e w' => ∃ v', e = .returned v' ∧ RC w' v' (outC p l) ∧ blk v' = blk v ∧ Mod (fun g => blk v = some g) w w' := by
  have Hrun := Lib.hid hrun
  have Hz := Lib.hid hz
  have Hwf := Lib.hid h.wf
  cases ha : l.any p with
  | false =>
    obtain ⟨A, c, rfl, hlc, hl⟩ := h.slice
    have Hi := Lib.hid (Index1 k p b z hcall hrun w hz A l.length c l hl)
    rw [idx_none ha] at Hi
    have H := Lib.hid h
    have Ho := Lib.hid (outC_none ha)
    obtain ⟨n, Hn⟩ : ∃ n, Hid (l.length = n) := ⟨_, Lib.hid rfl⟩
    rw [Hn.out] at Hi ⊢
    clear hl h hrun hz
    go_enter Try.func89, Try.ntmps89
    go_wp2_with fail
    refine Hi.out.mono ?_
    rintro e w1 ⟨rfl, h1⟩
    have H1 := Lib.hid h1
    clear h1
    go_wp2
    go_ret
    refine ⟨_, rfl, ?_, rfl, Mod.of_below H1.out⟩
    rw [Ho.out]
    have := H.out.below H1.out
    rw [Hn.out] at this
    exact this
  | true =>
    obtain ⟨i0, x0, hi0, hx0, hn0, hp0⟩ := idx_some ha
    rcases h.is with ⟨rfl, rfl⟩ | ⟨g, off, cap, rfl, hcs⟩
    · simp at ha
    have hl := (RC.slice h)
    obtain ⟨A, c, he, _, hIs⟩ := hl
    injection he with e1 _ e3
    subst e1 e3
    have Hi := Lib.hid (Index1 k p b z hcall hrun w hz (some ⟨g, off, none⟩) l.length cap l hIs)
    rw [hi0] at Hi
    have HK := Lib.hid (kf_first hx0 hn0 hp0)
    have hgb : b ≠ g := fun e => hb (by simp [blk, e])
    have hn := hIs.small
    have Hcs := Lib.hid hcs
    have hi1 := HK.out.le
    obtain ⟨n, Hn⟩ : ∃ n, Hid (l.length = n) := ⟨_, Lib.hid rfl⟩
    rw [Hn.out] at Hi hi1 hn ⊢
    have hneg : ¬ ((i0 : Int) = -1) := by omega
    clear hIs hrun hz hcs h hx0 hn0 hp0 hi0 ha
    go_enter Try.func89, Try.ntmps89
    go_wp2_with fail
    refine Hi.out.mono ?_
    rintro e w1 ⟨rfl, h1⟩
    have H1 := Lib.hid h1
    clear h1
    go_wp2
    go_loopw [5, 6, 7] (fun s5 s6 _ wr => ∃ (i j : Nat) (cur : List Cl), s5 = .int .i64 (i : Int) ∧ s6 = .int .i64 (j : Int) ∧ i < j ∧ j ≤ n ∧ Hid (Kf p l cur i j) ∧ Hid (Cs wr g off cap cur) ∧ Hid (Mod (· = g) w wr)) (fun _ s6 _ _ => n - (intOf s6).toNat)
    case atStart => exact ⟨i0, i0 + 1, l, rfl, by go_num, by omega, by omega, HK, Lib.hid (Hcs.out.below H1.out), Lib.hid (Mod.of_below H1.out)⟩
    case round =>
      obtain ⟨i, j, cur, rfl, rfl, hij, hjn, HKf, HC, HM⟩ := hrel
      by_cases hlt : j < n
      · obtain ⟨x, hx⟩ : ∃ x, l[j]? = some x := ⟨_, List.getElem?_eq_getElem (by rw [Hn.out]; exact hlt)⟩
        obtain ⟨c0, c1⟩ := HC.out.cells j x ((kf_read HKf.out).trans hx)
        have hcl := HKf.out.length
        have hcc := HC.out.len
        rw [Hn.out] at hcl
        have Hx := Lib.hid hx
        have hbw := lt_of_cell Hz.out
        have Hr : Hid (∀ u, Below wr.heap.size wr u → Calls Try.prog k #[clV x, .pointer (some ⟨b, 0, none⟩)] u fun e u' => e = .returned (.bool (p x)) ∧ Below u.heap.size u u') := Lib.hid (fun u hu => Hrun.out u x (by
          rw [hu.cell (p := ⟨b, 0, none⟩) (Nat.lt_of_lt_of_le hbw HM.out.size), HM.out.cell (p := ⟨b, 0, none⟩) hbw hgb]
          exact Hz.out))
        obtain ⟨b0, Hb⟩ : ∃ b, Hid (p x = b) := ⟨_, Lib.hid rfl⟩
        have jn : (j : Int) < (n : Int) := by omega
        have hgl := HC.out.lt
        clear hx
        go_wp2_with fail
        refine (Hr.out _ (balloc (Below.refl _ _) _)).mono ?_
        rw [Hb.out]
        rintro e w2 ⟨rfl, h2⟩
        have H2 := Lib.hid h2
        have HB2 := Lib.hid (bnext (balloc (Below.refl wr.heap.size wr) _) h2)
        have HC2 := Lib.hid (HC.out.below HB2.out)
        have HM2 := Lib.hid (HM.out.trans (Mod.of_below HB2.out))
        clear h2 c0 c1
        cases b0
        · have k0 : w2.cell? ⟨wr.heap.size, 0, none⟩ = some (.int .i64 x.1) := by rw [H2.out.cell (by simp)]; simp [go_sem]
          have k1 : w2.cell? ⟨wr.heap.size, 1, none⟩ = some (.int .i64 x.2) := by rw [H2.out.cell (by simp)]; simp [go_sem]
          obtain ⟨u0, h0⟩ := Option.isSome_iff_exists.1 (HC2.out.there (i * 2) (by omega))
          obtain ⟨u1, h1⟩ := Option.isSome_iff_exists.1 (HC2.out.there (i * 2 + 1) (by omega))
          have f0 := HC2.out.free (i * 2) (by omega)
          have f1 := HC2.out.free (i * 2 + 1) (by omega)
          rw [← Nat.add_assoc] at h1 f1
          have i_n : (i : Int) < (n : Int) := by omega
          have HCe := Lib.hid (HC2.out.set (i := i) (by omega) x)
          have HMe : Hid (Mod (· = g) w ((w2.setCell ⟨g, off + i * 2, none⟩ (.int .i64 x.1)).setCell ⟨g, off + i * 2 + 1, none⟩ (.int .i64 x.2))) := Lib.hid ((HM2.out.set1 _).set1 _)
          have HKe := Lib.hid (kf_in HKf.out Hx.out Hb.out)
          go_wp2
          go_roundw
          case rel => exact ⟨_, _, _, _, _, _, _, _, _, _, _, _, _, _, _, _, _, _, _, _, _, _, _, ⟨i + 1, j + 1, _, by go_num, by go_num, by omega, by omega, HKe, HCe, HMe⟩, rfl⟩
          case measure => simp [intOf]; omega
        · have HKe := Lib.hid (kf_out HKf.out Hx.out Hb.out)
          go_wp2
          go_roundw
          case rel => exact ⟨_, _, _, _, _, _, _, _, _, _, _, _, _, _, _, _, _, _, _, _, _, _, _, ⟨i, j + 1, _, rfl, by go_num, by omega, by omega, HKe, HC2, HM2⟩, rfl⟩
          case measure => simp [intOf]; omega
      · obtain rfl : j = n := by omega
        have hcl := HKf.out.length
        have hcc := HC.out.len
        rw [Hn.out] at hcl
        have hclr : ∀ ty, (Builtin.clear_ #[55] ty #[.slice (some ⟨g, off + i * 2, none⟩) (j - i) (cap - i)]).run Try.prog wr = .ok (.tuple #[]) (wr.setCells g (off + i * 2) (zer (j - i))) := fun ty =>
          run_clear2 wr ty g (off + i * 2) (j - i) (cap - i) (by omega) (fun q hq => by rw [Nat.add_assoc]; exact HC.out.there _ (by omega)) (fun q hq => by rw [Nat.add_assoc]; exact HC.out.free _ (by omega))
        have HE : Hid (cur.take i = outC p l) := Lib.hid (by have := HKf.out; rw [← Hn.out] at this; exact kf_end this)
        have HCe := Lib.hid (HC.out.behind i (zer (j - i)))
        have HMe : Hid (Mod (· = g) w (wr.setCells g (off + i * 2) (zer (j - i)))) := Lib.hid (HM.out.trans (cells_mod g _ _ _))
        have hmx := HC.out.max
        unfold maxLen at hmx
        go_wp2
        go_ret
        refine ⟨.slice (some ⟨g, off, none⟩) i cap, rfl, ⟨outC_wf Hwf.out, .inr ⟨g, off, cap, ?_, ?_⟩⟩, rfl, HMe.out.mono (fun q _ hq => by simp [blk, hq])⟩
        · rw [← HE.out, List.length_take]
          congr 1
          omega
        · rw [← HE.out]
          exact HCe.out
end Go.Proofs.Ythpmodohfjjjcaa
