
/- Rows of texts and of numbers held against each other; a row cloned; the first one of which a closure says yes, at this translation. -/
import Derived.Test.YtoakjcmhmlngfaaPl17
import Derived.Deep.QuietTactic
import Derived.BigQuiet
namespace Go.Proofs.Ytoakjcmhmlngfaa
open Go.RowKit

theorem IsG.txt {w : World} {A : Option Addr} {n : Nat} {l : List (List UInt8)} (h : IsG w 1 encT A n l) {i : Nat} {z : List UInt8} (hi : l[i]? = some z) :
    ∃ g off, A = some ⟨g, off, none⟩ ∧ w.cell? ⟨g, off + i, none⟩ = some (.string (str z)) := by
  have hil := (List.getElem?_eq_some_iff.1 hi).1
  obtain ⟨g, off, e, hg, hc⟩ := h.cells (by rw [← h.length]; omega)
  have c := hc i z 0 _ hi rfl
  rw [Nat.mul_one, Nat.add_zero] at c
  exact ⟨g, off, e, c⟩
set_option maxRecDepth 100000 in
set_option maxHeartbeats 1000000 in
set_option maxRecDepth 100000 in
set_option maxHeartbeats 4000000 in
theorem SameNames_any (x y : List (List UInt8)) (A B : Option Addr) (n c m d : Nat) (w : World) (hx : IsG w 1 encT A n x) (hy : IsG w 1 encT B m y) (hn : n ≤ 1000) (hm : m ≤ 1000) :
    Calls Try.prog 12 #[.slice A n c, .slice B m d] w fun e w' => e = .returned (.bool (decide (x = y))) ∧ Below w.heap.size w w' := by
  have Hx := Lib.hid hx
  have Hy := Lib.hid hy
  have Hlx := Lib.hid hx.length
  have Hly := Lib.hid hy.length
  obtain ⟨R, HR⟩ : ∃ b, Hid (decide (x = y) = b) := ⟨_, Lib.hid rfl⟩
  rw [HR.out]
  go_enter Try.func12, Try.ntmps12
  by_cases hnm : n = m
  case neg =>
    have hq : ((n : Int) != (m : Int)) = true := by simp; omega
    have HRf : Hid (false = R) := Lib.hid (by
      rw [← HR.out, eq_comm]
      refine decide_eq_false (fun e => hnm ?_)
      rw [← Hlx.out, ← Hly.out, e])
    clear hx hy
    go_wp2
    go_ret
    exact ⟨ret_bool HRf.out, Below.refl _ _⟩
  case pos =>
  subst hnm
  clear hx hy
  go_wp2_with fail
  go_loopw [5] (fun i wr => ∃ j q : Nat, j ≤ n ∧ i = .int .i64 j ∧ Hid (x.take j = y.take j) ∧ Hid (wr = w.drewN q)) (fun i _ => n - (intOf i).toNat)
  case atStart => exact ⟨0, 0, Nat.zero_le _, rfl, Lib.hid rfl, Lib.hid rfl⟩
  case round =>
    obtain ⟨j, q, hj, rfl, HT, Hwr⟩ := hrel
    have hwr := Hwr.out
    subst hwr
    by_cases hlt : j < n
    · have hltI : (j : Int) < (n : Int) := by omega
      obtain ⟨a, ha⟩ : ∃ a, x[j]? = some a := ⟨_, List.getElem?_eq_getElem (by rw [Hlx.out]; exact hlt)⟩
      obtain ⟨b, hb⟩ : ∃ b, y[j]? = some b := ⟨_, List.getElem?_eq_getElem (by rw [Hly.out]; exact hlt)⟩
      obtain ⟨g, off, rfl, e0⟩ := Hx.out.txt ha
      obtain ⟨g', off', rfl, e1⟩ := Hy.out.txt hb
      have Ha := Lib.hid ha
      have Hb := Lib.hid hb
      clear ha hb
      by_cases hab : a = b
      · have hbb : (a == b) = true := by simp [hab]
        have HT2 : Hid (x.take (j + 1) = y.take (j + 1)) := Lib.hid (by
          obtain ⟨h1, h2⟩ := List.getElem?_eq_some_iff.1 Ha.out
          obtain ⟨h3, h4⟩ := List.getElem?_eq_some_iff.1 Hb.out
          rw [List.take_succ_eq_append_getElem h1, List.take_succ_eq_append_getElem h3, HT.out, h2, h4, hab])
        clear hab
        go_wp2_with fail
        go_quiet (fail)
        go_wp2
        go_roundw
        case rel => exact ⟨j + 1, _, by omega, by go_num, HT2, Lib.hid rfl⟩
        case measure => simp [intOf]; omega
      · have hbb : (a == b) = false := by simp [hab]
        have HRf : Hid (false = R) := Lib.hid (by
          rw [← HR.out, eq_comm]
          refine decide_eq_false (fun e => hab ?_)
          have := Ha.out
          rw [e, Hb.out] at this
          exact (Option.some.inj this).symm)
        have BE : Hid (∀ k, Below w.heap.size w ((w.drewN q).drewN k)) := Lib.hid (fun k => bnext (below_drewN w q) (below_drewN _ k))
        clear hab
        go_wp2_with fail
        go_quiet (fail)
        go_wp2
        go_ret
        exact ⟨ret_bool HRf.out, BE.out _⟩
    · have hjn : j = n := by omega
      have hltI : ¬ (j : Int) < (n : Int) := by omega
      have HRt : Hid (true = R) := Lib.hid (by
        rw [← HR.out, eq_comm]
        have h := HT.out
        rw [hjn, List.take_of_length_le (by rw [Hlx.out]; exact Nat.le_refl _), List.take_of_length_le (by rw [Hly.out]; exact Nat.le_refl _)] at h
        exact decide_eq_true h)
      have BE := Lib.hid (below_drewN w q)
      clear hjn
      go_wp2
      go_ret
      exact ⟨ret_bool HRt.out, BE.out⟩

/-- A closure over a text that writes nothing old. -/
structure ClosS (W : World) (l : List (List UInt8)) (k : FuncId) (q : Value) (Q : List UInt8 → Bool) : Prop where
  call : ∀ args u, (callFunc k args).run Try.prog u = .ok (.enter k args) u
  run : ∀ u s, Below W.heap.size W u → s ∈ l → Calls Try.prog k #[.string (str s), q] u fun e u' => e = .returned (.bool (Q s)) ∧ Below u.heap.size u u'
set_option maxRecDepth 100000 in
set_option maxHeartbeats 2000000 in
theorem IndexS_any (W : World) (A : Option Addr) (n c : Nat) (l : List (List UInt8)) (hl : IsG W 1 encT A n l) (k : FuncId) (q : Value) (Q : List UInt8 → Bool) (h : ClosS W l k q Q) :
    Calls Try.prog 40 #[.slice A n c, .func (.func k) #[] #[q]] W fun e w' => ∃ z : Int, e = .returned (.int .i64 z) ∧ (decide (0 ≤ z) = l.any Q) ∧ Below W.heap.size W w' := by
  have hn := hl.small
  have Hl := Lib.hid hl
  have Hlen := Lib.hid hl.length
  have H := Lib.hid h
  have hcall := h.call
  clear h hl
  go_enter Try.func40, Try.ntmps40
  go_wp2
  go_loopw [8] (fun i wr => ∃ j : Nat, i = .int .i64 (j : Int) ∧ j ≤ n ∧ Hid ((l.take j).any Q = false) ∧ Hid (Below W.heap.size W wr)) (fun i _ => n - (intOf i).toNat)
  case atStart => exact ⟨0, rfl, Nat.zero_le _, Lib.hid rfl, Lib.hid (Below.refl _ _)⟩
  case round =>
    obtain ⟨j, rfl, hj, HQ, HB⟩ := hrel
    by_cases hlt : j < n
    · obtain ⟨s, Hs⟩ : ∃ a, Hid (l[j]? = some a) := ⟨l[j]'(by have := Hlen.out; omega), Lib.hid (List.getElem?_eq_getElem _)⟩
      obtain ⟨g, off, rfl, hgl, hc⟩ := (Hl.out.below HB.out).cells (by omega)
      have d0 := hc j s 0 _ Hs.out rfl
      rw [Nat.mul_one, Nat.add_zero] at d0
      have Hs1 : Hid (l.take (j + 1) = l.take j ++ [s]) := Lib.hid (by
        obtain ⟨h1, e1⟩ := List.getElem?_eq_some_iff.1 Hs.out
        rw [List.take_succ_eq_append_getElem h1, e1])
      have hjI : (j : Int) < (n : Int) := by omega
      obtain ⟨b, Hb⟩ : ∃ b, Hid (Q s = b) := ⟨_, Lib.hid rfl⟩
      clear hc
      go_wp2_with fail
      refine (H.out.run _ s HB.out (List.mem_of_getElem? Hs.out)).mono ?_
      rw [Hb.out]
      rintro e w2 ⟨rfl, b2⟩
      have HB2 : Hid (Below W.heap.size W w2) := Lib.hid (bnext HB.out b2)
      clear b2
      cases b
      · go_wp2
        go_roundw
        case rel => exact ⟨j + 1, by go_num, by omega, Lib.hid (by rw [Hs1.out, List.any_append, HQ.out]; simp [Hb.out]), HB2⟩
        case measure => simp [intOf]; omega
      · go_wp2
        go_ret
        refine ⟨(j : Int), rfl, ?_, HB2.out⟩
        have h1 : l.any Q = true := List.any_eq_true.2 ⟨s, List.mem_of_getElem? Hs.out, Hb.out⟩
        rw [h1]
        simp
    · obtain rfl : j = n := by omega
      have hjI : ¬ (j : Int) < (j : Int) := by omega
      go_wp2
      go_ret
      refine ⟨-1, rfl, ?_, HB.out⟩
      have h1 := HQ.out
      rw [List.take_of_length_le (by have := Hlen.out; omega)] at h1
      rw [h1]
      rfl
theorem ContS_any (W : World) (A : Option Addr) (n c : Nat) (l : List (List UInt8)) (hl : IsG W 1 encT A n l) (k : FuncId) (q : Value) (Q : List UInt8 → Bool) (h : ClosS W l k q Q) :
    Calls Try.prog 28 #[.slice A n c, .func (.func k) #[] #[q]] W fun e w' => e = .returned (.bool (l.any Q)) ∧ Below W.heap.size W w' := by
  obtain ⟨R, HR⟩ : ∃ b, Hid (l.any Q = b) := ⟨_, Lib.hid rfl⟩
  go_enter Try.func28, Try.ntmps28
  go_wp2_with fail
  refine (IndexS_any W A n c l hl k q Q h).mono ?_
  rw [HR.out]
  rintro e w2 ⟨z, rfl, hz, b2⟩
  have Hz := Lib.hid hz
  have B2 := Lib.hid b2
  clear hz b2
  go_wp2
  go_ret
  exact ⟨ret_bool (Hz.out.trans HR.out.symm), B2.out⟩
theorem eqS : ∀ (w : World) (a : Option Addr) (n c : Nat), (binOp .eql 26 (.slice a n c) (.slice none 0 0)).run Try.prog w = .ok (.bool a.isNone) w := fun w a n c => Lib.run_eql_slice_nil w _ _ a n c 0 0 Try.underlying26
set_option maxHeartbeats 1000000 in
theorem CloneS_any (W : World) (A : Option Addr) (n c : Nat) (l : List (List UInt8)) (hl : IsG W 1 encT A n l) (hn : n ≤ 1000) (hA : A = none → n = 0 ∧ c = 0) :
    Calls Try.prog 19 #[.slice A n c] W fun e w' => ∃ A' c', e = .returned (.slice A' n c') ∧ RG w' 1 encT (.slice A' n c') l ∧ (∀ g, blk (.slice A' n c') = some g → W.heap.size ≤ g) ∧ Below W.heap.size W w' := by
  cases A with
  | none =>
    obtain ⟨rfl, rfl⟩ := hA rfl
    have h0 : l = [] := List.eq_nil_of_length_eq_zero hl.length
    subst h0
    have q9 := eqS
    clear hA hl
    go_enter Try.func19, Try.ntmps19
    go_wp2
    go_ret
    exact ⟨none, 0, rfl, RG.nil _ _ _, (fun g e => by cases e), Below.refl _ _⟩
  | some ad =>
    have q9 := eqS
    obtain ⟨U, HU⟩ : ∃ U, Hid (W.alloc (.cells #[] 9) = U) := ⟨_, Lib.hid rfl⟩
    obtain ⟨p, Hp⟩ : ∃ p, Hid (W.heap.size = p) := ⟨_, Lib.hid rfl⟩
    have hbU : Below W.heap.size W U := by rw [← HU.out]; exact balloc (Below.refl _ _) _
    have hR : RG U 1 encT (.slice (some ⟨p, 0, none⟩) 0 0) [] := by
      rw [← HU.out, ← Hp.out]
      exact ⟨⟨rfl, .inr ⟨W.heap.size, 0, 0, rfl, by simp, Nat.le_refl _, Nat.zero_le _, fun j u hu => by simp [flat] at hu, fun j hj => by simp at hj, fun j hj => by simp at hj⟩⟩⟩
    obtain ⟨v2, w2, hr2, r2, a2⟩ := appG tInf encT_ok hR (c := c) (hl.below hbU) (by simp; omega) (by decide) 26
    have HR2 := Lib.hid hr2
    have N2 : Hid (RG w2 1 encT v2 l ∧ (∀ g, blk v2 = some g → W.heap.size ≤ g) ∧ Below W.heap.size W w2) := Lib.hid (by
      have hn0 : ∀ g, blk (.slice (some ⟨p, 0, none⟩) 0 0) = some g → W.heap.size ≤ g := fun g e => by
        simp [blk] at e
        rw [Hp.out]; omega
      refine ⟨r2, fun q e => ?_, a2.mod.below hbU hbU.size hn0⟩
      rcases a2.blk with e2 | ⟨q2, e2, hq2⟩
      · exact hn0 q (e2 ▸ e)
      · rw [e2] at e
        obtain rfl := Option.some.inj e
        have := hbU.size
        omega)
    have Hlen := Lib.hid hl.length
    obtain ⟨A6, c6, rfl⟩ : ∃ A6 c6, v2 = .slice A6 n c6 := by
      obtain ⟨A6, c6, e⟩ := N2.out.1.shape
      exact ⟨A6, c6, by rw [e, Hlen.out]⟩
    clear hA hl hbU hR hr2 r2 a2
    go_enter Try.func19, Try.ntmps19
    go_wp2_with (first | (at_builtin; rw [HU.out, Hp.out]; refine wpList_append_run rfl (.tmp 5) (.tmp 6) 26 rfl (by exact HR2.out) ?_) | fail)
    go_ret
    exact ⟨A6, c6, rfl, N2.out⟩
end Go.Proofs.Ytoakjcmhmlngfaa
