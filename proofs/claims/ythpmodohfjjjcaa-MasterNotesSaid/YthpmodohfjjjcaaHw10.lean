/- What a holder says of a resource: note, next, Want, Drop. -/
import Derived.Test.YthpmodohfjjjcaaHo10
import Derived.Test.YthpmodohfjjjcaaMix
namespace Go.Proofs.Ythpmodohfjjjcaa
open Go.RowKit

theorem Ho.put_ep (h : Ho) (r : Nat) (l : Lk) : (h.put r l).ep = h.ep := rfl
theorem Ho.put_sz (h : Ho) (r : Nat) (l : Lk) : (h.put r l).sz = h.sz := rfl
/-- A note's box that may be written. -/
structure NtF (w : World) (p : Nat) (n : Nt) : Prop where
  is : NtAt w p n
  f0 : w.frozen? ⟨p, 0, none⟩ = false
  f1 : w.frozen? ⟨p, 1, none⟩ = false
  f2 : w.frozen? ⟨p, 2, none⟩ = false
  f3 : w.frozen? ⟨p, 3, none⟩ = false
  f4 : w.frozen? ⟨p, 4, none⟩ = false
theorem NtF.new (w : World) (n : Nt) (t : TypeId) : NtF (w.alloc (.cells #[.int .i64 n.kind, .int .i64 n.epoch, .int .i64 n.res, .int .i64 n.mode, .int .i64 n.seq] t)) w.heap.size n := by
  refine ⟨NtAt.new w n t, ?_, ?_, ?_, ?_, ?_⟩ <;> simp [go_sem]
theorem NtF.later {S : Nat → Prop} {w w' : World} {p : Nat} {n : Nt} (h : NtF w p n) (m : Mod S w w') (hs : ¬ S p) : NtF w' p n :=
  ⟨h.is.later m hs, (m.frozen (p := ⟨p, 0, none⟩) h.is.lt hs).trans h.f0, (m.frozen (p := ⟨p, 1, none⟩) h.is.lt hs).trans h.f1, (m.frozen (p := ⟨p, 2, none⟩) h.is.lt hs).trans h.f2, (m.frozen (p := ⟨p, 3, none⟩) h.is.lt hs).trans h.f3, (m.frozen (p := ⟨p, 4, none⟩) h.is.lt hs).trans h.f4⟩
theorem NtF.below {w w' : World} {p : Nat} {n : Nt} (h : NtF w p n) (m : Below w.heap.size w w') : NtF w' p n := h.later (Mod.of_below (S := fun _ => False) m) id
/-- A note stored cell by cell. -/
def setN (w : World) (p : Nat) (n : Nt) : World :=
  ((((w.setCell ⟨p, 0, none⟩ (.int .i64 n.kind)).setCell ⟨p, 1, none⟩ (.int .i64 n.epoch)).setCell ⟨p, 2, none⟩ (.int .i64 n.res)).setCell ⟨p, 3, none⟩ (.int .i64 n.mode)).setCell ⟨p, 4, none⟩ (.int .i64 n.seq)
theorem NtF.set {w : World} {p : Nat} {n : Nt} (h : NtF w p n) (m : Nt) : NtF (setN w p m) p m := by
  unfold setN
  refine ⟨⟨?_, ?_, ?_, ?_, ?_⟩, set_frozen (set_frozen (set_frozen (set_frozen (set_frozen h.f0)))), set_frozen (set_frozen (set_frozen (set_frozen (set_frozen h.f1)))), set_frozen (set_frozen (set_frozen (set_frozen (set_frozen h.f2)))), set_frozen (set_frozen (set_frozen (set_frozen (set_frozen h.f3)))), set_frozen (set_frozen (set_frozen (set_frozen (set_frozen h.f4))))⟩
  · exact set_other (by simp) (set_other (by simp) (set_other (by simp) (set_other (by simp) (set_same h.is.c0))))
  · exact set_other (by simp) (set_other (by simp) (set_other (by simp) (set_same (set_other (by simp) h.is.c1))))
  · exact set_other (by simp) (set_other (by simp) (set_same (set_other (by simp) (set_other (by simp) h.is.c2))))
  · exact set_other (by simp) (set_same (set_other (by simp) (set_other (by simp) (set_other (by simp) h.is.c3))))
  · exact set_same (set_other (by simp) (set_other (by simp) (set_other (by simp) (set_other (by simp) h.is.c4))))
theorem setN_mod (w : World) (p : Nat) (n : Nt) : Mod (· = p) w (setN w p n) := (((((Mod.refl _ w).set1 _).set1 _).set1 _).set1 _).set1 _
theorem setN_below {w u : World} {p : Nat} (h : Below w.heap.size w u) (hp : w.heap.size ≤ p) (n : Nt) : Below w.heap.size w (setN u p n) := bmod h (setN_mod u p n) hp
theorem setN_mod' {S : Nat → Prop} {w u : World} {p : Nat} (h : Mod S w u) (hp : w.heap.size ≤ p) (n : Nt) : Mod S w (setN u p n) :=
  ((((h.setCell (p := ⟨p, 0, none⟩) (.inr hp) _).setCell (p := ⟨p, 1, none⟩) (.inr hp) _).setCell (p := ⟨p, 2, none⟩) (.inr hp) _).setCell (p := ⟨p, 3, none⟩) (.inr hp) _).setCell (p := ⟨p, 4, none⟩) (.inr hp) _
theorem NtF.store {w : World} {p : Nat} {n : Nt} (hn : NtF w p n) (a b c d e : Int) :
    (Instr.storeAt 23 (.pointer (some ⟨p, 0, none⟩)) (.agg #[.int .i64 a, .int .i64 b, .int .i64 c, .int .i64 d, .int .i64 e])).run Try.prog w = .ok () (setN w p ⟨a, b, c, d, e⟩) := by
  have f0 := hn.f0
  have f1 := hn.f1
  have f2 := hn.f2
  have f3 := hn.f3
  have f4 := hn.f4
  have d0 := hn.is.c0
  have d1 := hn.is.c1
  have d2 := hn.is.c2
  have d3 := hn.is.c3
  have d4 := hn.is.c4
  go_simp
  rfl
theorem NtAt.ret {w : World} {p : Nat} {n : Nt} (h : NtAt w p n) : (loadVar 23 ⟨p, 0, none⟩).run Try.prog w = .ok (ntV n) w := by
  have c0 := h.c0
  have c1 := h.c1
  have c2 := h.c2
  have c3 := h.c3
  have c4 := h.c4
  go_simp
set_option maxRecDepth 100000 in
set_option maxHeartbeats 1000000 in
theorem note_any {w : World} {b : Nat} {h : Ho} (x : IsH w b h) {r : Nat} (hr : r < 16) (k m : Int) :
    Calls Try.prog 44 #[.pointer (some ⟨b, 0, none⟩), .int .i64 k, .int .i64 (r : Int), .int .i64 m] w fun e w' => e = .returned (ntV ⟨k, h.ep, r, m, (h.lk r).count⟩) ∧ Below w.heap.size w w' := by
  have hr0 : (0 : Int) ≤ (r : Int) := by omega
  have hr1 : (r : Int) < 16 := by omega
  have HB : Hid (Below w.heap.size w (w.alloc (.cells #[.int .i64 0, .int .i64 0, .int .i64 0, .int .i64 0, .int .i64 0] 23))) := Lib.hid (balloc (Below.refl _ _) _)
  have X := Lib.hid (x.below HB.out)
  have q0 : ∀ y : In (Abv (w.alloc (.cells #[.int .i64 0, .int .i64 0, .int .i64 0, .int .i64 0, .int .i64 0] 23))), y.u.cell? ⟨b, 0, none⟩ = some (.int .i64 h.ep) := fun y => (X.out.below y.is).c0
  have q3 : ∀ y : In (Abv (w.alloc (.cells #[.int .i64 0, .int .i64 0, .int .i64 0, .int .i64 0, .int .i64 0] 23))), y.u.cell? ⟨b, 2 + r * 4 + 3, none⟩ = some (.int .i64 (h.lk r).count) := fun y => (X.out.below y.is).k3 r hr
  clear x
  go_enter Try.func44, Try.ntmps44
  go_wp2_with fail
  refine wp_region_mix (by kernel_rfl) (Cls (Abv (w.alloc (.cells #[.int .i64 0, .int .i64 0, .int .i64 0, .int .i64 0, .int .i64 0] 23)))) [(0, 0), (1, 0), (2, 0), (3, 0), (4, 0), (5, 0), (6, 0), (7, 0), (8, 0), (9, 0), (10, 0), (11, 0), (12, 0), (13, 0), (14, 0), (15, 2)] (by kernel_rfl) (cls (Below.refl _ _).drew) ?_
  repeat (refine mix0 rfl (fun K hK => ?_); go_simp; refine hK _ ?_; clear hK K)
  refine mix2 rfl (fun K hK => ?_); go_simp; refine hK _ _ ?_; clear hK K
  refine mixEnd ?_
  clear q0 q3
  go_wp2
  refine bodyPost_ret (v := ntV ⟨k, h.ep, r, m, (h.lk r).count⟩) ?_ rfl ⟨rfl, ?_⟩
  · rw [results_cell1 rfl]
    go_simp
  · exact (balloc (Below.refl _ _) _).drew
set_option maxRecDepth 100000 in
set_option maxHeartbeats 1000000 in
theorem next_any {w : World} {b : Nat} {h : Ho} (x : IsH w b h) {r : Nat} (hr : r < 16) (hc0 : 0 ≤ (h.lk r).count) (hc1 : (h.lk r).count ≤ 4611686018427387904) (k m : Int) :
    Calls Try.prog 45 #[.pointer (some ⟨b, 0, none⟩), .int .i64 k, .int .i64 (r : Int), .int .i64 m] w fun e w' => e = .returned (ntV ⟨k, h.ep, r, m, (h.lk r).count + 1⟩) ∧
      IsH w' b (h.put r ⟨(h.lk r).has, (h.lk r).keeps, (h.lk r).wants, (h.lk r).count + 1⟩) ∧ Mod (· = b) w w' := by
  have hr0 : (0 : Int) ≤ (r : Int) := by omega
  have hr1 : (r : Int) < 16 := by omega
  obtain ⟨W, HW⟩ : ∃ x, Hid (w.alloc (.cells #[.int .i64 0, .int .i64 0, .int .i64 0, .int .i64 0, .int .i64 0] 23) = x) := ⟨_, Lib.hid rfl⟩
  obtain ⟨p, Hp⟩ : ∃ x, Hid (w.heap.size = x) := ⟨_, Lib.hid rfl⟩
  have HB : Hid (Below w.heap.size w W) := Lib.hid (by rw [← HW.out]; exact balloc (Below.refl _ _) _)
  have hbp : b ≠ p := by have := x.lt; have := Hp.out; omega
  have X := Lib.hid (x.below HB.out)
  have N0 : Hid (NtF W p nt0) := Lib.hid (by rw [← HW.out, ← Hp.out]; exact NtF.new w nt0 _)
  have hw1 : IntKind.i64.wrap ((h.lk r).count + 1) = (h.lk r).count + 1 := IntWalk.i64_in _ (by omega)
  have q3 : ∀ y : In (Abv W), y.u.cell? ⟨b, 2 + r * 4 + 3, none⟩ = some (.int .i64 (h.lk r).count) := fun y => (X.out.below y.is).k3 r hr
  have d3 := X.out.k3 r hr
  have f3 := X.out.free (2 + r * 4 + 3) (by omega)
  clear x
  go_enter Try.func45, Try.ntmps45
  go_wp2_with fail
  rw [HW.out, Hp.out]
  refine wp_region_mix (by kernel_rfl) (Cls (Abv W)) [(0, 0), (1, 0), (2, 0), (3, 0), (4, 0), (5, 0), (6, 0), (7, 0), (8, 0), (9, 0), (10, 0), (11, 0), (12, 2)] (by kernel_rfl) (cls (Below.refl _ W).drew) ?_
  repeat (refine mix0 rfl (fun K hK => ?_); go_simp; refine hK _ ?_; clear hK K)
  refine mix2 rfl (fun K hK => ?_); go_simp; refine hK _ _ ?_; clear hK K
  refine mixEnd ?_
  clear q3 d3 f3
  obtain ⟨W2, HW2⟩ : ∃ x, Hid ((W.setCell ⟨b, 2 + r * 4 + 3, none⟩ (.int .i64 ((h.lk r).count + 1))).drew = x) := ⟨_, Lib.hid rfl⟩
  have HX2 : Hid (IsH W2 b (h.put r ⟨(h.lk r).has, (h.lk r).keeps, (h.lk r).wants, (h.lk r).count + 1⟩)) := Lib.hid (by rw [← HW2.out]; exact (X.out.set3 hr _).below (drewB _))
  have HM2 : Hid (Mod (· = b) w W2) := Lib.hid (by rw [← HW2.out]; exact ((Mod.of_below HB.out).set1 _).drew)
  have HN2 : Hid (NtF W2 p nt0) := Lib.hid (by rw [← HW2.out]; exact N0.out.later (((Mod.refl (· = b) W).set1 _).drew) (fun e => hbp e.symm))
  rw [HW2.out]
  go_wp2_with fail
  refine (note_any HX2.out hr k m).mono ?_
  rw [Ho.put_at, Ho.put_ep]
  rintro e w3 ⟨rfl, hb⟩
  have HX3 := Lib.hid (HX2.out.below hb)
  have HN3 := Lib.hid (HN2.out.below hb)
  have HM3 : Hid (Mod (· = b) w w3) := Lib.hid (HM2.out.trans (Mod.of_below hb))
  clear hb
  have f0 := HN3.out.f0
  have f1 := HN3.out.f1
  have f2 := HN3.out.f2
  have f3 := HN3.out.f3
  have f4 := HN3.out.f4
  have d0 := HN3.out.is.c0
  have d1 := HN3.out.is.c1
  have d2 := HN3.out.is.c2
  have d3 := HN3.out.is.c3
  have d4 := HN3.out.is.c4
  obtain ⟨W4, HW4⟩ : ∃ x, Hid (setN w3 p ⟨k, h.ep, r, m, (h.lk r).count + 1⟩ = x) := ⟨_, Lib.hid rfl⟩
  have N4 : Hid (NtAt W4 p ⟨k, h.ep, r, m, (h.lk r).count + 1⟩) := Lib.hid (by rw [← HW4.out]; exact (HN3.out.set _).is)
  have HX4 : Hid (IsH W4 b (h.put r ⟨(h.lk r).has, (h.lk r).keeps, (h.lk r).wants, (h.lk r).count + 1⟩)) := Lib.hid (by rw [← HW4.out]; exact HX3.out.later (setN_mod w3 p ⟨k, h.ep, r, m, (h.lk r).count + 1⟩) (fun e => hbp e))
  have HM4 : Hid (Mod (· = b) w W4) := Lib.hid (by rw [← HW4.out]; exact setN_mod' HM3.out (by have := Hp.out; omega) _)
  have hw4 := HW4.out
  unfold setN at hw4
  go_wp2_with fail
  have c0 := N4.out.c0
  have c1 := N4.out.c1
  have c2 := N4.out.c2
  have c3 := N4.out.c3
  have c4 := N4.out.c4
  refine bodyPost_ret (v := ntV ⟨k, h.ep, r, m, (h.lk r).count + 1⟩) ?_ rfl ⟨rfl, HX4.out, HM4.out⟩
  rw [results_cell1 rfl]
  go_simp
/-! ### Want -/
theorem Ho.put_self {h : Ho} {r : Nat} {l : Lk} (e : l = h.lk r) : h.put r l = h := by rw [e]; exact Ho.put_same h r
def wantOk (h : Ho) (z m : Int) : Bool := amgB z h.sz && stB m 0 && !covB (h.at z).has m
/-- What is wanted leaves of a lock. -/
def wantL (l : Lk) (m : Int) : Lk := if l.wants = m then l else ⟨l.has, l.keeps, m, l.count + 1⟩
def wantH (h : Ho) (z m : Int) : Ho := if wantOk h z m then h.put z.toNat (wantL (h.lk z.toNat) m) else h
def wantN (h : Ho) (z m : Int) : Nt := if wantOk h z m then ⟨1, h.ep, z, m, (wantL (h.lk z.toNat) m).count⟩ else nt0
set_option maxRecDepth 100000 in
theorem hWant_nil (w : World) (z m : Int) :
    Calls Try.prog 16 #[.pointer none, .int .i64 z, .int .i64 m] w fun e w' => e = .returned (.tuple #[ntV nt0, .bool false]) ∧ Below w.heap.size w w' := by
  go_enter Try.func16, Try.ntmps16
  go_wp2_with fail
  refine (lock_nil _ _).mono ?_
  rintro e w1 ⟨rfl, rfl⟩
  go_wp2
  refine bodyPost_ret (v := .tuple #[ntV nt0, .bool false]) ?_ rfl ⟨rfl, balloc (Below.refl _ _) _⟩
  rw [results_cell_tmp rfl]
  go_simp
  exact ⟨rfl, rfl, rfl, rfl, rfl⟩
set_option maxRecDepth 100000 in
theorem hWant_any {w : World} {b : Nat} {h : Ho} (x : IsH w b h) (z m : Int) (hc : ∀ r : Nat, r < 16 → z = (r : Int) → 0 ≤ (h.lk r).count ∧ (h.lk r).count ≤ 4611686018427387904) :
    Calls Try.prog 16 #[.pointer (some ⟨b, 0, none⟩), .int .i64 z, .int .i64 m] w fun e w' => e = .returned (.tuple #[ntV (wantN h z m), .bool (wantOk h z m)]) ∧ IsH w' b (wantH h z m) ∧ Mod (· = b) w w' := by
  obtain ⟨W, HW⟩ : ∃ x, Hid (w.alloc (.cells #[.int .i64 0, .int .i64 0, .int .i64 0, .int .i64 0, .int .i64 0] 23) = x) := ⟨_, Lib.hid rfl⟩
  obtain ⟨p, Hp⟩ : ∃ x, Hid (w.heap.size = x) := ⟨_, Lib.hid rfl⟩
  have HB : Hid (Below w.heap.size w W) := Lib.hid (by rw [← HW.out]; exact balloc (Below.refl _ _) _)
  have hbp : b ≠ p := by have := x.lt; have := Hp.out; omega
  have X := Lib.hid (x.below HB.out)
  have N0 : Hid (NtF W p nt0) := Lib.hid (by rw [← HW.out, ← Hp.out]; exact NtF.new w nt0 _)
  have hs := x.sz
  clear x
  obtain ⟨RN, HRN⟩ : ∃ q, Hid (wantN h z m = q) := ⟨_, Lib.hid rfl⟩
  obtain ⟨RH, HRH⟩ : ∃ q, Hid (wantH h z m = q) := ⟨_, Lib.hid rfl⟩
  obtain ⟨RO, HRO⟩ : ∃ q, Hid (wantOk h z m = q) := ⟨_, Lib.hid rfl⟩
  rw [HRO.out, HRN.out, HRH.out]
  rcases amg_cases z h.sz hs with ⟨r, hr, rfl, hz⟩ | hz
  · have Hl := Lib.hid (lock_in X.out hr hz)
    have Hat := Lib.hid (h.at_in hz)
    have hcr := hc r hr rfl
    obtain ⟨q1, Hq1⟩ : ∃ q, Hid (stB m 0 = q) := ⟨_, Lib.hid rfl⟩
    obtain ⟨q2, Hq2⟩ : ∃ q, Hid (covB (h.lk r).has m = q) := ⟨_, Lib.hid rfl⟩
    have Hok : Hid (RO = (q1 && !q2)) := Lib.hid (by rw [← HRO.out, wantOk, hz, Hat.out, Hq1.out, Hq2.out]; rfl)
    rw [Hok.out] at HRO ⊢
    have HN : Hid (wantOk h r m = true → RN = ⟨1, h.ep, r, m, (wantL (h.lk r) m).count⟩ ∧ RH = h.put r (wantL (h.lk r) m)) := Lib.hid (fun e => by rw [← HRN.out, ← HRH.out, wantN, wantH, e]; exact ⟨rfl, rfl⟩)
    clear hz hc hs
    go_enter Try.func16, Try.ntmps16
    go_wp2_with fail
    rw [HW.out, Hp.out]
    refine Hl.out.mono ?_
    rintro e w1 ⟨rfl, rfl⟩
    go_wp2_with fail
    refine (stronger_any _ _ _).mono ?_
    rw [Hq1.out]
    rintro e w2 ⟨rfl, hb⟩
    have X2 := Lib.hid (X.out.below hb)
    have N2 := Lib.hid (N0.out.below hb)
    have B2 := Lib.hid (bnext HB.out hb)
    clear hb
    cases q1
    · have HR : Hid (RN = nt0 ∧ RH = h) := Lib.hid (by rw [← HRN.out, ← HRH.out, wantN, wantH, HRO.out]; exact ⟨rfl, rfl⟩)
      have f0 := N2.out.f0
      have f1 := N2.out.f1
      have f2 := N2.out.f2
      have f3 := N2.out.f3
      have f4 := N2.out.f4
      have d0 := N2.out.is.c0
      have d1 := N2.out.is.c1
      have d2 := N2.out.is.c2
      have d3 := N2.out.is.c3
      have d4 := N2.out.is.c4
      obtain ⟨W4, HW4⟩ : ∃ x, Hid (setN w2 p ⟨0, 0, 0, 0, 0⟩ = x) := ⟨_, Lib.hid rfl⟩
      have N4 : Hid (NtAt W4 p ⟨0, 0, 0, 0, 0⟩) := Lib.hid (by rw [← HW4.out]; exact (N2.out.set _).is)
      have HX4 : Hid (IsH W4 b h) := Lib.hid (by rw [← HW4.out]; exact X2.out.later (setN_mod w2 p ⟨0, 0, 0, 0, 0⟩) (fun e => hbp e))
      have HM4 : Hid (Mod (· = b) w W4) := Lib.hid (by rw [← HW4.out]; exact setN_mod' (Mod.of_below B2.out) (by have := Hp.out; omega) _)
      have hw4 := HW4.out
      unfold setN at hw4
      go_wp2_with fail
      have c0 := N4.out.c0
      have c1 := N4.out.c1
      have c2 := N4.out.c2
      have c3 := N4.out.c3
      have c4 := N4.out.c4
      refine bodyPost_ret (v := .tuple #[ntV ⟨0, 0, 0, 0, 0⟩, .bool false]) ?_ rfl ⟨?_, ?_, HM4.out⟩
      · rw [results_cell_tmp rfl]
        go_simp
      · rw [HR.out.1] <;> rfl
      · rw [HR.out.2]; exact HX4.out
    · have q0 := X2.out.k0 r hr
      go_wp2_with fail
      refine (Covers_any _ _ _).mono ?_
      rw [Hq2.out]
      rintro e w3 ⟨rfl, hb⟩
      have X3 := Lib.hid (X2.out.below hb)
      have N3 := Lib.hid (N2.out.below hb)
      have B3 := Lib.hid (bnext B2.out hb)
      clear hb q0
      cases q2
      · have hN := HN.out HRO.out
        by_cases hwm : (h.lk r).wants = m
        · have hwb := beq_yes hwm
          have hL : wantL (h.lk r) m = h.lk r := by rw [wantL, if_pos hwm]
          rw [hL, Ho.put_same] at hN
          have HR := Lib.hid hN
          have q2 := X3.out.k2 r hr
          clear hwm hL hN
          go_wp2_with fail
          refine (note_any X3.out hr _ _).mono ?_
          rintro e w4 ⟨rfl, hb⟩
          have X4 := Lib.hid (X3.out.below hb)
          have N4' := Lib.hid (N3.out.below hb)
          have B4 := Lib.hid (bnext B3.out hb)
          clear hb q2
          have f0 := N4'.out.f0
          have f1 := N4'.out.f1
          have f2 := N4'.out.f2
          have f3 := N4'.out.f3
          have f4 := N4'.out.f4
          have d0 := N4'.out.is.c0
          have d1 := N4'.out.is.c1
          have d2 := N4'.out.is.c2
          have d3 := N4'.out.is.c3
          have d4 := N4'.out.is.c4
          obtain ⟨W4, HW4⟩ : ∃ x, Hid (setN w4 p ⟨1, h.ep, r, m, (h.lk r).count⟩ = x) := ⟨_, Lib.hid rfl⟩
          have N4 : Hid (NtAt W4 p ⟨1, h.ep, r, m, (h.lk r).count⟩) := Lib.hid (by rw [← HW4.out]; exact (N4'.out.set _).is)
          have HX4 : Hid (IsH W4 b h) := Lib.hid (by rw [← HW4.out]; exact X4.out.later (setN_mod w4 p ⟨1, h.ep, r, m, (h.lk r).count⟩) (fun e => hbp e))
          have HM4 : Hid (Mod (· = b) w W4) := Lib.hid (by rw [← HW4.out]; exact setN_mod' (Mod.of_below B4.out) (by have := Hp.out; omega) _)
          have hw4 := HW4.out
          unfold setN at hw4
          go_wp2_with fail
          have c0 := N4.out.c0
          have c1 := N4.out.c1
          have c2 := N4.out.c2
          have c3 := N4.out.c3
          have c4 := N4.out.c4
          refine bodyPost_ret (v := .tuple #[ntV ⟨1, h.ep, r, m, (h.lk r).count⟩, .bool true]) ?_ rfl ⟨?_, ?_, HM4.out⟩
          · rw [results_cell_tmp rfl]
            go_simp
          · rw [HR.out.1] <;> rfl
          · rw [HR.out.2]; exact HX4.out
        · have hwb := beq_no hwm
          have hL : wantL (h.lk r) m = ⟨(h.lk r).has, (h.lk r).keeps, m, (h.lk r).count + 1⟩ := by rw [wantL, if_neg hwm]
          rw [hL] at hN
          have HR := Lib.hid hN
          have q2 := X3.out.k2 r hr
          have f2 := X3.out.free (2 + r * 4 + 2) (by omega)
          clear hwm hL hN
          go_wp2_with fail
          obtain ⟨W4, HW4⟩ : ∃ x, Hid (w3.setCell ⟨b, 2 + r * 4 + 2, none⟩ (.int .i64 m) = x) := ⟨_, Lib.hid rfl⟩
          have HX4 := X3.out.set2 hr m
          have HN4 := N3.out.later ((Mod.refl (· = b) w3).set1 (.int .i64 m) (o := 2 + r * 4 + 2)) (fun e => hbp e.symm)
          have HM4 : Mod (· = b) w (w3.setCell ⟨b, 2 + r * 4 + 2, none⟩ (.int .i64 m)) := (Mod.of_below B3.out).set1 _
          rw [HW4.out] at HX4 HN4 HM4 ⊢
          have X4 := Lib.hid HX4
          have N4' := Lib.hid HN4
          have M4 := Lib.hid HM4
          clear HX4 HN4 HM4 q2 f2
          have hat := Ho.put_at h r ⟨(h.lk r).has, (h.lk r).keeps, m, (h.lk r).count⟩
          refine (next_any X4.out hr (by rw [hat]; exact hcr.1) (by rw [hat]; exact hcr.2) _ _).mono ?_
          rw [hat, Ho.put_put, Ho.put_ep]
          rintro e w5 ⟨rfl, hx5, hm5⟩
          have X5 := Lib.hid hx5
          have N5 := Lib.hid (N4'.out.later hm5 (fun e => hbp e.symm))
          have M5 := Lib.hid (M4.out.trans hm5)
          clear hx5 hm5 hat
          have f0 := N5.out.f0
          have f1 := N5.out.f1
          have f2 := N5.out.f2
          have f3 := N5.out.f3
          have f4 := N5.out.f4
          have d0 := N5.out.is.c0
          have d1 := N5.out.is.c1
          have d2 := N5.out.is.c2
          have d3 := N5.out.is.c3
          have d4 := N5.out.is.c4
          obtain ⟨W6, HW6⟩ : ∃ x, Hid (setN w5 p ⟨1, h.ep, r, m, (h.lk r).count + 1⟩ = x) := ⟨_, Lib.hid rfl⟩
          have N6 : Hid (NtAt W6 p ⟨1, h.ep, r, m, (h.lk r).count + 1⟩) := Lib.hid (by rw [← HW6.out]; exact (N5.out.set _).is)
          have HX6 : Hid (IsH W6 b (h.put r ⟨(h.lk r).has, (h.lk r).keeps, m, (h.lk r).count + 1⟩)) := Lib.hid (by rw [← HW6.out]; exact X5.out.later (setN_mod w5 p ⟨1, h.ep, r, m, (h.lk r).count + 1⟩) (fun e => hbp e))
          have HM6 : Hid (Mod (· = b) w W6) := Lib.hid (by rw [← HW6.out]; exact setN_mod' M5.out (by have := Hp.out; omega) _)
          have hw6 := HW6.out
          unfold setN at hw6
          go_wp2_with fail
          have c0 := N6.out.c0
          have c1 := N6.out.c1
          have c2 := N6.out.c2
          have c3 := N6.out.c3
          have c4 := N6.out.c4
          refine bodyPost_ret (v := .tuple #[ntV ⟨1, h.ep, r, m, (h.lk r).count + 1⟩, .bool true]) ?_ rfl ⟨?_, ?_, HM6.out⟩
          · rw [results_cell_tmp rfl]
            go_simp
          · rw [HR.out.1] <;> rfl
          · rw [HR.out.2]; exact HX6.out
      · have HR : Hid (RN = nt0 ∧ RH = h) := Lib.hid (by rw [← HRN.out, ← HRH.out, wantN, wantH, HRO.out]; exact ⟨rfl, rfl⟩)
        have f0 := N3.out.f0
        have f1 := N3.out.f1
        have f2 := N3.out.f2
        have f3 := N3.out.f3
        have f4 := N3.out.f4
        have d0 := N3.out.is.c0
        have d1 := N3.out.is.c1
        have d2 := N3.out.is.c2
        have d3 := N3.out.is.c3
        have d4 := N3.out.is.c4
        obtain ⟨W4, HW4⟩ : ∃ x, Hid (setN w3 p ⟨0, 0, 0, 0, 0⟩ = x) := ⟨_, Lib.hid rfl⟩
        have N4 : Hid (NtAt W4 p ⟨0, 0, 0, 0, 0⟩) := Lib.hid (by rw [← HW4.out]; exact (N3.out.set _).is)
        have HX4 : Hid (IsH W4 b h) := Lib.hid (by rw [← HW4.out]; exact X3.out.later (setN_mod w3 p ⟨0, 0, 0, 0, 0⟩) (fun e => hbp e))
        have HM4 : Hid (Mod (· = b) w W4) := Lib.hid (by rw [← HW4.out]; exact setN_mod' (Mod.of_below B3.out) (by have := Hp.out; omega) _)
        have hw4 := HW4.out
        unfold setN at hw4
        go_wp2_with fail
        have c0 := N4.out.c0
        have c1 := N4.out.c1
        have c2 := N4.out.c2
        have c3 := N4.out.c3
        have c4 := N4.out.c4
        refine bodyPost_ret (v := .tuple #[ntV ⟨0, 0, 0, 0, 0⟩, .bool false]) ?_ rfl ⟨?_, ?_, HM4.out⟩
        · rw [results_cell_tmp rfl]
          go_simp
        · rw [HR.out.1] <;> rfl
        · rw [HR.out.2]; exact HX4.out
  · have Hl := Lib.hid (lock_out X.out z hz)
    have Hok : Hid (RO = false) := Lib.hid (by rw [← HRO.out, wantOk, hz]; rfl)
    rw [Hok.out] at HRO ⊢
    have HR : Hid (RN = nt0 ∧ RH = h) := Lib.hid (by rw [← HRN.out, ← HRH.out, wantN, wantH, HRO.out]; exact ⟨rfl, rfl⟩)
    clear hz hc hs
    go_enter Try.func16, Try.ntmps16
    go_wp2_with fail
    rw [HW.out, Hp.out]
    refine Hl.out.mono ?_
    rintro e w1 ⟨rfl, rfl⟩
    have f0 := N0.out.f0
    have f1 := N0.out.f1
    have f2 := N0.out.f2
    have f3 := N0.out.f3
    have f4 := N0.out.f4
    have d0 := N0.out.is.c0
    have d1 := N0.out.is.c1
    have d2 := N0.out.is.c2
    have d3 := N0.out.is.c3
    have d4 := N0.out.is.c4
    obtain ⟨W4, HW4⟩ : ∃ x, Hid (setN W p ⟨0, 0, 0, 0, 0⟩ = x) := ⟨_, Lib.hid rfl⟩
    have N4 : Hid (NtAt W4 p ⟨0, 0, 0, 0, 0⟩) := Lib.hid (by rw [← HW4.out]; exact (N0.out.set _).is)
    have HX4 : Hid (IsH W4 b h) := Lib.hid (by rw [← HW4.out]; exact X.out.later (setN_mod W p ⟨0, 0, 0, 0, 0⟩) (fun e => hbp e))
    have HM4 : Hid (Mod (· = b) w W4) := Lib.hid (by rw [← HW4.out]; exact setN_mod' (Mod.of_below HB.out) (by have := Hp.out; omega) _)
    have hw4 := HW4.out
    unfold setN at hw4
    go_wp2_with fail
    have c0 := N4.out.c0
    have c1 := N4.out.c1
    have c2 := N4.out.c2
    have c3 := N4.out.c3
    have c4 := N4.out.c4
    refine bodyPost_ret (v := .tuple #[ntV ⟨0, 0, 0, 0, 0⟩, .bool false]) ?_ rfl ⟨?_, ?_, HM4.out⟩
    · rw [results_cell_tmp rfl]
      go_simp
    · rw [HR.out.1] <;> rfl
    · rw [HR.out.2]; exact HX4.out
/-! ### Drop -/
def dropOk (h : Ho) (z m : Int) : Bool := amgB z h.sz && stB (h.at z).has m
def dropL (l : Lk) (m : Int) : Lk := ⟨m, m, 0, l.count + 1⟩
def dropH (h : Ho) (z m : Int) : Ho := if dropOk h z m then h.put z.toNat (dropL (h.lk z.toNat) m) else h
def dropN (h : Ho) (z m : Int) : Nt := if dropOk h z m then ⟨2, h.ep, z, m, (h.lk z.toNat).count + 1⟩ else nt0
set_option maxRecDepth 100000 in
theorem hDrop_nil (w : World) (z m : Int) :
    Calls Try.prog 17 #[.pointer none, .int .i64 z, .int .i64 m] w fun e w' => e = .returned (.tuple #[ntV nt0, .bool false]) ∧ Below w.heap.size w w' := by
  go_enter Try.func17, Try.ntmps17
  go_wp2_with fail
  refine (lock_nil _ _).mono ?_
  rintro e w1 ⟨rfl, rfl⟩
  go_wp2
  refine bodyPost_ret (v := .tuple #[ntV nt0, .bool false]) ?_ rfl ⟨rfl, balloc (Below.refl _ _) _⟩
  rw [results_cell_tmp rfl]
  go_simp
  exact ⟨rfl, rfl, rfl, rfl, rfl⟩
set_option maxRecDepth 100000 in
theorem hDrop_any {w : World} {b : Nat} {h : Ho} (x : IsH w b h) (z m : Int) (hc : ∀ r : Nat, r < 16 → z = (r : Int) → 0 ≤ (h.lk r).count ∧ (h.lk r).count ≤ 4611686018427387904) :
    Calls Try.prog 17 #[.pointer (some ⟨b, 0, none⟩), .int .i64 z, .int .i64 m] w fun e w' => e = .returned (.tuple #[ntV (dropN h z m), .bool (dropOk h z m)]) ∧ IsH w' b (dropH h z m) ∧ Mod (· = b) w w' := by
  obtain ⟨W, HW⟩ : ∃ x, Hid (w.alloc (.cells #[.int .i64 0, .int .i64 0, .int .i64 0, .int .i64 0, .int .i64 0] 23) = x) := ⟨_, Lib.hid rfl⟩
  obtain ⟨p, Hp⟩ : ∃ x, Hid (w.heap.size = x) := ⟨_, Lib.hid rfl⟩
  have HB : Hid (Below w.heap.size w W) := Lib.hid (by rw [← HW.out]; exact balloc (Below.refl _ _) _)
  have hbp : b ≠ p := by have := x.lt; have := Hp.out; omega
  have X := Lib.hid (x.below HB.out)
  have N0 : Hid (NtF W p nt0) := Lib.hid (by rw [← HW.out, ← Hp.out]; exact NtF.new w nt0 _)
  have hs := x.sz
  clear x
  obtain ⟨RN, HRN⟩ : ∃ q, Hid (dropN h z m = q) := ⟨_, Lib.hid rfl⟩
  obtain ⟨RH, HRH⟩ : ∃ q, Hid (dropH h z m = q) := ⟨_, Lib.hid rfl⟩
  obtain ⟨RO, HRO⟩ : ∃ q, Hid (dropOk h z m = q) := ⟨_, Lib.hid rfl⟩
  rw [HRO.out, HRN.out, HRH.out]
  rcases amg_cases z h.sz hs with ⟨r, hr, rfl, hz⟩ | hz
  · have Hl := Lib.hid (lock_in X.out hr hz)
    have Hat := Lib.hid (h.at_in hz)
    have hcr := hc r hr rfl
    have Hok : Hid (stB (h.lk r).has m = RO) := Lib.hid (by rw [← HRO.out, dropOk, hz, Hat.out]; rfl)
    have HN : Hid (RO = true → RN = ⟨2, h.ep, r, m, (h.lk r).count + 1⟩ ∧ RH = h.put r ⟨m, m, 0, (h.lk r).count + 1⟩) := Lib.hid (fun e => by rw [← HRN.out, ← HRH.out, dropN, dropH, HRO.out, e]; exact ⟨rfl, rfl⟩)
    have q0 := X.out.k0 r hr
    clear hz hc hs
    go_enter Try.func17, Try.ntmps17
    go_wp2_with fail
    rw [HW.out, Hp.out]
    refine Hl.out.mono ?_
    rintro e w1 ⟨rfl, rfl⟩
    go_wp2_with fail
    refine (stronger_any _ _ _).mono ?_
    rw [Hok.out]
    rintro e w2 ⟨rfl, hb⟩
    have X2 := Lib.hid (X.out.below hb)
    have N2 := Lib.hid (N0.out.below hb)
    have B2 := Lib.hid (bnext HB.out hb)
    clear hb q0
    cases RO
    · have HR : Hid (RN = nt0 ∧ RH = h) := Lib.hid (by rw [← HRN.out, ← HRH.out, dropN, dropH, HRO.out]; exact ⟨rfl, rfl⟩)
      have f0 := N2.out.f0
      have f1 := N2.out.f1
      have f2 := N2.out.f2
      have f3 := N2.out.f3
      have f4 := N2.out.f4
      have d0 := N2.out.is.c0
      have d1 := N2.out.is.c1
      have d2 := N2.out.is.c2
      have d3 := N2.out.is.c3
      have d4 := N2.out.is.c4
      obtain ⟨W4, HW4⟩ : ∃ x, Hid (setN w2 p ⟨0, 0, 0, 0, 0⟩ = x) := ⟨_, Lib.hid rfl⟩
      have N4 : Hid (NtAt W4 p ⟨0, 0, 0, 0, 0⟩) := Lib.hid (by rw [← HW4.out]; exact (N2.out.set _).is)
      have HX4 : Hid (IsH W4 b h) := Lib.hid (by rw [← HW4.out]; exact X2.out.later (setN_mod w2 p ⟨0, 0, 0, 0, 0⟩) (fun e => hbp e))
      have HM4 : Hid (Mod (· = b) w W4) := Lib.hid (by rw [← HW4.out]; exact setN_mod' (Mod.of_below B2.out) (by have := Hp.out; omega) _)
      have hw4 := HW4.out
      unfold setN at hw4
      go_wp2_with fail
      have c0 := N4.out.c0
      have c1 := N4.out.c1
      have c2 := N4.out.c2
      have c3 := N4.out.c3
      have c4 := N4.out.c4
      refine bodyPost_ret (v := .tuple #[ntV ⟨0, 0, 0, 0, 0⟩, .bool false]) ?_ rfl ⟨?_, ?_, HM4.out⟩
      · rw [results_cell_tmp rfl]
        go_simp
      · rw [HR.out.1] <;> rfl
      · rw [HR.out.2]; exact HX4.out
    · have HR := Lib.hid (HN.out rfl)
      go_wp2_with fail
      refine (set_any X2.out hr m).mono ?_
      rintro e w4 ⟨rfl, hx4, hm4⟩
      have X4 := Lib.hid hx4
      have N4' := Lib.hid (N2.out.later hm4 (fun e => hbp e.symm))
      have M4 : Hid (Mod (· = b) w w4) := Lib.hid ((Mod.of_below B2.out).trans hm4)
      clear hx4 hm4
      have hat := Ho.put_at h r ⟨m, m, 0, (h.lk r).count⟩
      go_wp2_with fail
      refine (next_any X4.out hr (by rw [hat]; exact hcr.1) (by rw [hat]; exact hcr.2) _ _).mono ?_
      rw [hat, Ho.put_put, Ho.put_ep]
      rintro e w5 ⟨rfl, hx5, hm5⟩
      have X5 := Lib.hid hx5
      have N5 := Lib.hid (N4'.out.later hm5 (fun e => hbp e.symm))
      have M5 := Lib.hid (M4.out.trans hm5)
      clear hx5 hm5 hat
      have f0 := N5.out.f0
      have f1 := N5.out.f1
      have f2 := N5.out.f2
      have f3 := N5.out.f3
      have f4 := N5.out.f4
      have d0 := N5.out.is.c0
      have d1 := N5.out.is.c1
      have d2 := N5.out.is.c2
      have d3 := N5.out.is.c3
      have d4 := N5.out.is.c4
      obtain ⟨W6, HW6⟩ : ∃ x, Hid (setN w5 p ⟨2, h.ep, r, m, (h.lk r).count + 1⟩ = x) := ⟨_, Lib.hid rfl⟩
      have N6 : Hid (NtAt W6 p ⟨2, h.ep, r, m, (h.lk r).count + 1⟩) := Lib.hid (by rw [← HW6.out]; exact (N5.out.set _).is)
      have HX6 : Hid (IsH W6 b (h.put r ⟨m, m, 0, (h.lk r).count + 1⟩)) := Lib.hid (by rw [← HW6.out]; exact X5.out.later (setN_mod w5 p ⟨2, h.ep, r, m, (h.lk r).count + 1⟩) (fun e => hbp e))
      have HM6 : Hid (Mod (· = b) w W6) := Lib.hid (by rw [← HW6.out]; exact setN_mod' M5.out (by have := Hp.out; omega) _)
      have hw6 := HW6.out
      unfold setN at hw6
      go_wp2_with fail
      have c0 := N6.out.c0
      have c1 := N6.out.c1
      have c2 := N6.out.c2
      have c3 := N6.out.c3
      have c4 := N6.out.c4
      refine bodyPost_ret (v := .tuple #[ntV ⟨2, h.ep, r, m, (h.lk r).count + 1⟩, .bool true]) ?_ rfl ⟨?_, ?_, HM6.out⟩
      · rw [results_cell_tmp rfl]
        go_simp
      · rw [HR.out.1] <;> rfl
      · rw [HR.out.2]; exact HX6.out
  · have Hl := Lib.hid (lock_out X.out z hz)
    have Hok : Hid (RO = false) := Lib.hid (by rw [← HRO.out, dropOk, hz]; rfl)
    rw [Hok.out] at HRO ⊢
    have HR : Hid (RN = nt0 ∧ RH = h) := Lib.hid (by rw [← HRN.out, ← HRH.out, dropN, dropH, HRO.out]; exact ⟨rfl, rfl⟩)
    clear hz hc hs
    go_enter Try.func17, Try.ntmps17
    go_wp2_with fail
    rw [HW.out, Hp.out]
    refine Hl.out.mono ?_
    rintro e w1 ⟨rfl, rfl⟩
    have f0 := N0.out.f0
    have f1 := N0.out.f1
    have f2 := N0.out.f2
    have f3 := N0.out.f3
    have f4 := N0.out.f4
    have d0 := N0.out.is.c0
    have d1 := N0.out.is.c1
    have d2 := N0.out.is.c2
    have d3 := N0.out.is.c3
    have d4 := N0.out.is.c4
    obtain ⟨W4, HW4⟩ : ∃ x, Hid (setN W p ⟨0, 0, 0, 0, 0⟩ = x) := ⟨_, Lib.hid rfl⟩
    have N4 : Hid (NtAt W4 p ⟨0, 0, 0, 0, 0⟩) := Lib.hid (by rw [← HW4.out]; exact (N0.out.set _).is)
    have HX4 : Hid (IsH W4 b h) := Lib.hid (by rw [← HW4.out]; exact X.out.later (setN_mod W p ⟨0, 0, 0, 0, 0⟩) (fun e => hbp e))
    have HM4 : Hid (Mod (· = b) w W4) := Lib.hid (by rw [← HW4.out]; exact setN_mod' (Mod.of_below HB.out) (by have := Hp.out; omega) _)
    have hw4 := HW4.out
    unfold setN at hw4
    go_wp2_with fail
    have c0 := N4.out.c0
    have c1 := N4.out.c1
    have c2 := N4.out.c2
    have c3 := N4.out.c3
    have c4 := N4.out.c4
    refine bodyPost_ret (v := .tuple #[ntV ⟨0, 0, 0, 0, 0⟩, .bool false]) ?_ rfl ⟨?_, ?_, HM4.out⟩
    · rw [results_cell_tmp rfl]
      go_simp
    · rw [HR.out.1] <;> rfl
    · rw [HR.out.2]; exact HX4.out
end Go.Proofs.Ythpmodohfjjjcaa
