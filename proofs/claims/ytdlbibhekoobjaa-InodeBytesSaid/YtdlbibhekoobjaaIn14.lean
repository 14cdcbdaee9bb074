/- Inodes: which may be; the closure that tells of numbers whether each is no sector's, or was there already. -/
import Derived.Test.YtdlbibhekoobjaaIs14
import Derived.Test.YtdlbibhekoobjaaShelf
namespace Go.Proofs.Ytdlbibhekoobjaa
open Go.RowKit

def encI (z : Int) : List Value := [.int .i64 z]
theorem encI_ok : Enc 1 encI := ⟨fun _ => rfl, by intro a u hu; simp [encI] at hu; subst hu; rfl, by decide⟩
theorem inInfo0 : (Try.prog.info? 3).map (fun i => (i.zero, i.size, i.bytes)) = some (some (.int .i64 0), 1, 8) := by kernel_rfl
theorem inInf : Inf 22 3 1 8 := ⟨Try.underlying22, by
  have h := inInfo0
  cases hq : Try.prog.info? 3 with
  | none => rw [hq] at h; cases h
  | some i0 =>
    rw [hq] at h
    simp only [Option.map_some, Option.some.injEq, Prod.mk.injEq] at h
    exact ⟨i0, _, rfl, h.1, h.2.1, h.2.2, rfl⟩⟩
theorem in_one (w : World) (z : Int) (ty : TypeId) : IsG (w.alloc (.cells #[.int .i64 z] ty)) 1 encI (some ⟨w.heap.size, 0, none⟩) 1 [z] :=
  IsG.one (by simp) (fun j u hu => by
    rw [World.cell?_alloc_at _ _ _ _ rfl]
    match j, hu with
    | 0, hu => simpa [encI] using hu
    | j + 1, hu => simp [encI] at hu)
/-- A number of a row. -/
theorem IsG.num {w : World} {A : Option Addr} {n : Nat} {l : List Int} (h : IsG w 1 encI A n l) {i : Nat} {z : Int} (hi : l[i]? = some z) :
    ∃ g off, A = some ⟨g, off, none⟩ ∧ w.cell? ⟨g, off + i, none⟩ = some (.int .i64 z) := by
  have hil := (List.getElem?_eq_some_iff.1 hi).1
  obtain ⟨g, off, e, hg, hc⟩ := h.cells (by rw [← h.length]; omega)
  have c := hc i z 0 _ hi rfl
  rw [Nat.mul_one, Nat.add_zero] at c
  exact ⟨g, off, e, c⟩
/-- A number of a row that is known by its place. -/
theorem IsG.nth {w : World} {g off n : Nat} {l : List Int} (h : IsG w 1 encI (some ⟨g, off, none⟩) n l) {i : Nat} {z : Int} (hi : l[i]? = some z) : w.cell? ⟨g, off + i, none⟩ = some (.int .i64 z) := by
  obtain ⟨g', off', e, c⟩ := h.num hi
  have e1 : g = g' := congrArg Addr.block (Option.some.inj e)
  have e2 : off = off' := congrArg Addr.off (Option.some.inj e)
  rw [e1, e2]; exact c
/-! ### which may be -/
structure Ino where
  k : Int
  l : Int
  s : Int
  d : List Int
def Ino.zero : Ino := ⟨0, 0, 0, []⟩
def linkB (k l : Int) : Bool := if k = 1 then decide (1 ≤ l) && decide (l ≤ 1000) else if k = 2 then decide (l = 1) else false
/-- A number that is no sector's, or was there already. -/
def badQ (d : List Int) (i : Nat) : Bool := match d[i]? with
  | some x => decide (x < 0) || decide (65536 ≤ x) || (d.take i).contains x
  | none => false
def anyI (Q : Nat → Bool) (n : Nat) : Bool := (List.range n).any Q
theorem anyI_zero (Q : Nat → Bool) : anyI Q 0 = false := rfl
theorem anyI_next (Q : Nat → Bool) (n : Nat) : anyI Q (n + 1) = (anyI Q n || Q n) := by simp [anyI, List.range_succ]
theorem anyI_yes {Q : Nat → Bool} {n i : Nat} (h : Q i = true) (hi : i < n) : anyI Q n = true := by
  simp only [anyI, List.any_eq_true]
  exact ⟨i, List.mem_range.2 hi, h⟩
def inoB (x : Ino) : Bool := linkB x.k x.l && (decide (0 ≤ x.s) && (decide (x.s ≤ 6144) && (decide ((x.d.length : Int) = needI x.s) && !anyI (badQ x.d) x.d.length)))
def inoE (x : Ino) : Int := if inoB x then 0 else 1
theorem linksRight_any (k l : Int) (w : World) :
    Calls Try.prog 28 #[.int .i64 k, .int .i64 l] w fun e w' => e = .returned (.bool (linkB k l)) ∧ w = w' := by
  by_cases h1 : k = 1
  · have hr : linkB k l = (decide (1 ≤ l) && decide (l ≤ 1000)) := if_pos h1
    rw [hr]
    subst h1
    clear hr
    go_enter Try.func28, Try.ntmps28
    go_wp2
    all_goals
      go_ret
      exact ⟨ret_bool (by simp; try omega), rfl⟩
  · by_cases h2 : k = 2
    · have hr : linkB k l = decide (l = 1) := by rw [linkB, if_neg h1, if_pos h2]
      rw [hr]
      subst h2
      clear hr
      go_enter Try.func28, Try.ntmps28
      go_wp2
      all_goals
        go_ret
        exact ⟨ret_bool (by first | rfl | simp), rfl⟩
    · have hr : linkB k l = false := by rw [linkB, if_neg h1, if_neg h2]
      rw [hr]
      have q1 : (k == 1) = false := by simp [h1]
      have q2 : (k == 2) = false := by simp [h2]
      clear hr h1 h2
      go_enter Try.func28, Try.ntmps28
      go_wp2
      go_ret
      exact ⟨rfl, rfl⟩
/-! ### the closure -/
structure ClosI (W0 w : World) (l : List Int) (k : FuncId) (q : Value) (Inv : Nat → World → Prop) (Q : Nat → Bool) : Prop where
  call : ∀ args u, (callFunc k args).run Try.prog u = .ok (.enter k args) u
  first : Inv 0 w
  below : ∀ i u, Inv i u → Below W0.heap.size W0 u
  run : ∀ i u x, Inv i u → l[i]? = some x → Calls Try.prog k #[.int .i64 x, q] u fun e u' => e = .returned (.bool (Q i)) ∧ Inv (i + 1) u'
set_option maxRecDepth 100000 in
set_option maxHeartbeats 1000000 in
theorem IndexI_any (W0 w : World) (A : Option Addr) (n c : Nat) (l : List Int) (hl : IsG W0 1 encI A n l) (k : FuncId) (q : Value) (Inv : Nat → World → Prop) (Q : Nat → Bool) (h : ClosI W0 w l k q Inv Q) :
    Calls Try.prog 42 #[.slice A n c, .func (.func k) #[] #[q]] w fun e w' => ∃ z : Int, e = .returned (.int .i64 z) ∧ decide (0 ≤ z) = anyI Q n ∧ ∃ i, Inv i w' := by
  have hn := hl.small
  have Hl := Lib.hid hl
  have H := Lib.hid h
  have hcall := h.call
  clear h hl
  go_enter Try.func42, Try.ntmps42
  go_wp2
  go_loopw [5, 8] (fun _ i wr => ∃ j : Nat, i = .int .i64 (j : Int) ∧ j ≤ n ∧ Hid (anyI Q j = false) ∧ Hid (Inv j wr)) (fun _ i _ => n - (intOf i).toNat)
  case atStart => exact ⟨0, rfl, Nat.zero_le _, Lib.hid rfl, Lib.hid H.out.first⟩
  case round =>
    obtain ⟨j, rfl, hj, HQ, HI⟩ := hrel
    by_cases hlt : j < n
    · obtain ⟨x, hx⟩ : ∃ x, l[j]? = some x := ⟨_, List.getElem?_eq_getElem (by rw [Hl.out.length]; exact hlt)⟩
      obtain ⟨g, off, rfl, c0⟩ := (Hl.out.below (H.out.below _ _ HI.out)).num hx
      have Hr := Lib.hid (H.out.run j wr x HI.out hx)
      have Hnx := Lib.hid (anyI_next Q j)
      have Hyes : Hid (Q j = true → anyI Q n = true) := Lib.hid (fun e => anyI_yes e hlt)
      obtain ⟨b, Hb⟩ : ∃ b, Hid (Q j = b) := ⟨_, Lib.hid rfl⟩
      clear hx
      go_wp2_with fail
      refine Hr.out.mono ?_
      rw [Hb.out]
      rintro e w1 ⟨rfl, h1⟩
      have HI1 := Lib.hid h1
      clear h1
      cases b
      · go_wp2
        go_roundw
        case rel => exact ⟨j + 1, by go_num, by omega, Lib.hid (by rw [Hnx.out, HQ.out, Hb.out]; rfl), HI1⟩
        case measure => simp [intOf]; omega
      · go_wp2
        go_ret
        exact ⟨_, rfl, by rw [Hyes.out Hb.out]; simp, _, HI1.out⟩
    · obtain rfl : j = n := by omega
      go_wp2
      go_ret
      exact ⟨_, rfl, by rw [HQ.out]; rfl, _, HI.out⟩
set_option maxRecDepth 100000 in
theorem ContainsI_any (W0 w : World) (A : Option Addr) (n c : Nat) (l : List Int) (hl : IsG W0 1 encI A n l) (k : FuncId) (q : Value) (Inv : Nat → World → Prop) (Q : Nat → Bool) (h : ClosI W0 w l k q Inv Q) :
    Calls Try.prog 29 #[.slice A n c, .func (.func k) #[] #[q]] w fun e w' => e = .returned (.bool (anyI Q n)) ∧ ∃ i, Inv i w' := by
  have H := Lib.hid (IndexI_any W0 w A n c l hl k q Inv Q h)
  clear h hl
  obtain ⟨b, Hb⟩ : ∃ b, Hid (anyI Q n = b) := ⟨_, Lib.hid rfl⟩
  rw [Hb.out]
  go_enter Try.func29, Try.ntmps29
  go_wp2_with fail
  refine H.out.mono ?_
  rw [Hb.out]
  rintro e w1 ⟨z, rfl, h1, h2⟩
  have H1 := Lib.hid h1
  have H2 := Lib.hid h2
  clear h1 h2
  go_wp2
  go_ret
  exact ⟨ret_bool H1.out, H2.out⟩
theorem Has_int (A : Option Addr) (n c : Nat) (l : List Int) (x : Int) (w : World) (h : IsG w 1 encI A n l) :
    Calls Try.prog 44 #[.slice A n c, .int .i64 x] w fun e w' => e = .returned (.bool (l.contains x)) ∧ w = w' := by
  rcases Nat.eq_zero_or_pos n with h0 | h0
  · subst h0
    have hl : l = [] := List.eq_nil_of_length_eq_zero h.length
    subst hl
    refine (Try.slices_Contains_int_empty A c x w).mono ?_
    rintro e w' ⟨rfl, rfl⟩
    exact ⟨rfl, rfl⟩
  · obtain ⟨g, off, rfl, _, _⟩ := h.cells h0
    refine (Try.slices_Contains_int g off n c l x w (by rw [h.length]; exact Nat.le_refl _) h.small (fun j hj => ?_)).mono ?_
    · have e : l[j]? = some l[j] := List.getElem?_eq_getElem hj
      rw [h.nth e, List.getD_eq_getElem?_getD, e]; rfl
    · rintro e w' ⟨rfl, rfl⟩
      rw [List.take_of_length_le (by rw [h.length]; exact Nat.le_refl _)]
      exact ⟨rfl, rfl⟩
/-- What the closure has seen lies in block b. -/
structure Seen (W0 : World) (b : Nat) (d : List Int) (i : Nat) (u : World) : Prop where
  ex : ∃ v, u.cell? ⟨b, 0, none⟩ = some v ∧ RG u 1 encI v (d.take i) ∧ ∀ g, blk v = some g → W0.heap.size ≤ g ∧ g ≠ b
  free : u.frozen? ⟨b, 0, none⟩ = false
  top : W0.heap.size ≤ b
  below : Below W0.heap.size W0 u
set_option maxRecDepth 100000 in
theorem wrong_any (w : World) :
    Calls Try.prog 30 #[] w fun e w' => ∃ b, e = .returned (.func (.func 43) #[] #[.pointer (some ⟨b, 0, none⟩)]) ∧ ∀ d, Seen w b d 0 w' := by
  go_enter Try.func30, Try.ntmps30
  go_wp2
  go_ret
  refine ⟨w.heap.size, rfl, fun d => ⟨⟨.slice none 0 0, by go_simp, by rw [List.take_zero]; exact RG.nil _ _ _, fun g hg => by cases hg⟩, by go_simp, Nat.le_refl _, balloc (Below.refl _ w) _⟩⟩
set_option maxRecDepth 100000 in
set_option maxHeartbeats 1000000 in
theorem wrong1_any (W0 : World) (b : Nat) (d : List Int) (hd : d.length ≤ 1000) (i : Nat) (u : World) (x : Int) (h : Seen W0 b d i u) (hx : d[i]? = some x) :
    Calls Try.prog 43 #[.int .i64 x, .pointer (some ⟨b, 0, none⟩)] u fun e u' => e = .returned (.bool (badQ d i)) ∧ Seen W0 b d (i + 1) u' := by
  obtain ⟨⟨v, hv, hr, hn⟩, hf, ht, hb⟩ := h
  obtain ⟨A, c, he⟩ := hr.shape
  have hil := (List.getElem?_eq_some_iff.1 hx).1
  have hln : (d.take i).length = i := by rw [List.length_take]; omega
  rw [hln] at he
  subst he
  have HI := Lib.hid (hr.is encI_ok).1

  have hst : d.take (i + 1) = d.take i ++ [x] := by
    obtain ⟨hk', he⟩ := List.getElem?_eq_some_iff.1 hx
    rw [List.take_succ_eq_append_getElem hk', he]
  obtain ⟨C, HC⟩ : ∃ C, Hid ((d.take i).contains x = C) := ⟨_, Lib.hid rfl⟩
  have Hq : Hid (badQ d i = (decide (x < 0) || decide (65536 ≤ x) || C)) := Lib.hid (by rw [badQ, hx, ← HC.out])
  have hlt := lt_of_cell hv
  have hi5 : i ≤ 1000 := by omega
  -- the row with one more
  obtain ⟨W1, HW1⟩ : ∃ z, Hid (u.alloc (.cells #[.int .i64 x] 3) = z) := ⟨_, Lib.hid rfl⟩
  obtain ⟨q, Hq1⟩ : ∃ z, Hid (u.heap.size = z) := ⟨_, Lib.hid rfl⟩
  have B1 : Hid (Below u.heap.size u W1) := Lib.hid (by rw [← HW1.out]; exact balloc (Below.refl _ u) _)
  have G1 : Hid (IsG W1 1 encI (some ⟨q, 0, none⟩) 1 [x]) := Lib.hid (by rw [← HW1.out, ← Hq1.out]; exact in_one u x _)
  obtain ⟨T6, w6, hr6, r6, a6⟩ := appG inInf encI_ok (hr.below B1.out) (c := 1) G1.out (by rw [hln]; omega) (by decide) 22
  obtain ⟨A6, c6, he6⟩ := r6.shape
  rw [List.length_append, List.length_singleton, hln] at he6
  subst he6
  have Hr6 := Lib.hid hr6
  have hbT : ∀ g, blk (.slice A6 (i + 1) c6) = some g → W0.heap.size ≤ g ∧ g ≠ b := fun g hg => by
    rcases a6.blk with e | ⟨g', e, h'⟩
    · exact hn g (e ▸ hg)
    · rw [e] at hg; injection hg with hg
      have := B1.out.size; have := hb.size
      exact ⟨by omega, by omega⟩
  have hm6 : Mod (fun g => blk (.slice A i c) = some g) u w6 := (Mod.of_below B1.out).trans a6.mod
  have hc6 : w6.cell? ⟨b, 0, none⟩ = some (.slice A i c) := (hm6.cell (p := ⟨b, 0, none⟩) hlt (fun e => (hn b e).2 rfl)).trans hv
  have hf6 : w6.frozen? ⟨b, 0, none⟩ = false := (hm6.frozen (p := ⟨b, 0, none⟩) hlt (fun e => (hn b e).2 rfl)).trans hf
  have HS : Hid (Seen W0 b d (i + 1) (w6.setCell ⟨b, 0, none⟩ (.slice A6 (i + 1) c6))) := Lib.hid ⟨⟨_, set_same hc6, by
      rw [hst]
      exact r6.later (S := (· = b)) ((Mod.refl _ w6).set1 _) (fun g hg => (hbT g hg).2), hbT⟩, set_frozen hf6, ht,
    (Mod.below hb hm6 (Nat.le_of_lt (Nat.lt_of_le_of_lt ht hlt)) (fun g hg => (hn g hg).1)).setCell ht _⟩
  rw [Hq.out]
  clear hr hn hb hr6 r6 a6 hst hx hm6 hbT
  by_cases h1 : x < 0
  · have e1 : (decide (x < 0) || decide (65536 ≤ x) || C) = true := by simp [h1]
    rw [e1]
    clear e1
    go_enter Try.func43, Try.ntmps43
    go_wp2_with (at_builtin; rw [HW1.out, Hq1.out]; refine wpList_append_run rfl (.tmp 16) (.tmp 18) 22 rfl (by exact Hr6.out) ?_)
    go_ret
    exact ⟨rfl, HS.out⟩
  · by_cases h2 : 65536 ≤ x
    · have e1 : (decide (x < 0) || decide (65536 ≤ x) || C) = true := by simp [h2]
      rw [e1]
      clear e1
      go_enter Try.func43, Try.ntmps43
      go_wp2_with (at_builtin; rw [HW1.out, Hq1.out]; refine wpList_append_run rfl (.tmp 16) (.tmp 18) 22 rfl (by exact Hr6.out) ?_)
      go_ret
      exact ⟨rfl, HS.out⟩
    · have e1 : (decide (x < 0) || decide (65536 ≤ x) || C) = C := by simp [h1, h2]
      rw [e1]
      clear e1
      go_enter Try.func43, Try.ntmps43
      go_wp2_with fail
      refine (Has_int _ _ _ _ _ _ HI.out).mono ?_
      rw [HC.out]
      rintro e w2 ⟨rfl, rfl⟩
      go_wp2_with (at_builtin; rw [HW1.out, Hq1.out]; refine wpList_append_run rfl (.tmp 16) (.tmp 18) 22 rfl (by exact Hr6.out) ?_)
      go_ret
      exact ⟨rfl, HS.out⟩
theorem closI (W0 w : World) (b : Nat) (d : List Int) (hd : d.length ≤ 1000) (h : ∀ d, Seen W0 b d 0 w) :
    ClosI W0 w d 43 (.pointer (some ⟨b, 0, none⟩)) (fun i u => Seen W0 b d i u) (badQ d) :=
  ⟨fun _ _ => rfl, h d, fun _ _ hu => hu.below, fun i u x hu hx => wrong1_any W0 b d hd i u x hu hx⟩
end Go.Proofs.Ytdlbibhekoobjaa
