/- What a holder does of notes that it hears, and says again. -/
import Derived.Test.YthpmodohfjjjcaaHw10
import Derived.Test.YthpmodohfjjjcaaGr10
namespace Go.Proofs.Ythpmodohfjjjcaa
open Go.RowKit

def ntE (n : Nt) : List Value := [.int .i64 n.kind, .int .i64 n.epoch, .int .i64 n.res, .int .i64 n.mode, .int .i64 n.seq]
theorem ntEnc : Enc 5 ntE := ⟨fun _ => rfl, fun a u hu => by
  simp only [ntE, List.mem_cons, List.not_mem_nil, or_false] at hu
  rcases hu with rfl | rfl | rfl | rfl | rfl <;> rfl, by omega⟩
theorem ntInfo0 : (Try.prog.info? 23).map (fun i => (i.zero, i.size, i.bytes)) = some (some (.agg #[.int .i64 0, .int .i64 0, .int .i64 0, .int .i64 0, .int .i64 0]), 5, 40) := by kernel_rfl
theorem ntInf : Inf 51 23 5 40 := ⟨Try.underlying51, by
  have h := ntInfo0
  cases hq : Try.prog.info? 23 with
  | none => rw [hq] at h; cases h
  | some i0 =>
    rw [hq] at h
    simp only [Option.map_some, Option.some.injEq, Prod.mk.injEq] at h
    exact ⟨i0, _, rfl, h.1, h.2.1, h.2.2, rfl⟩⟩
abbrev RN (w : World) (v : Value) (l : List Nt) : Prop := RG w 5 ntE v l
theorem nt_one (w : World) (n : Nt) (t : TypeId) : IsG (w.alloc (.cells #[.int .i64 n.kind, .int .i64 n.epoch, .int .i64 n.res, .int .i64 n.mode, .int .i64 n.seq] t)) 5 ntE (some ⟨w.heap.size, 0, none⟩) 1 [n] :=
  IsG.one (by simp) (fun j u hj => by
    match j, hj with
    | 0, hj | 1, hj | 2, hj | 3, hj | 4, hj => simp [ntE] at hj; subst hj; simp [go_sem]
    | j + 5, hj => simp [ntE] at hj)
/-- What is heard leaves of a lock. -/
def hearL (l : Lk) (n : Nt) : Lk :=
  if n.kind = 3 then (if l.wants = 0 ∨ l.count ≠ n.seq ∨ covB n.mode l.wants = false then l else ⟨n.mode, n.mode, 0, l.count⟩)
  else if n.kind = 4 then (if stB l.has n.mode then ⟨l.has, if stB l.keeps n.mode then n.mode else l.keeps, l.wants, l.count⟩ else ⟨l.has, l.keeps, l.wants, l.count + (if l.wants = 0 then 1 else 2)⟩)
  else l
/-- What is said to that. -/
def hearS (ep : Int) (l : Lk) (n : Nt) : List Nt :=
  if n.kind = 4 ∧ stB l.has n.mode = false then ⟨2, ep, n.res, l.has, l.count + 1⟩ :: (if l.wants = 0 then [] else [⟨1, ep, n.res, l.wants, l.count + 2⟩]) else []
def hearH (h : Ho) (n : Nt) : Ho := if meantB n h.ep h.sz then h.put n.res.toNat (hearL (h.lk n.res.toNat) n) else h
def hearT (h : Ho) (n : Nt) : List Nt := if meantB n h.ep h.sz then hearS h.ep (h.lk n.res.toNat) n else []
set_option maxRecDepth 100000 in
theorem hHear_nil (w : World) (n : Nt) :
    Calls Try.prog 21 #[.pointer none, ntV n] w fun e w' => e = .returned (.slice none 0 0) ∧ Below w.heap.size w w' := by
  go_enter Try.func21, Try.ntmps21
  go_wp2_with fail
  go_step3
  go_wp2_with fail
  refine wp_region_mix (by kernel_rfl) (Cls (Abv (w.alloc (.cells #[.int .i64 n.kind, .int .i64 n.epoch, .int .i64 n.res, .int .i64 n.mode, .int .i64 n.seq] 23)))) [(0, 0), (1, 0), (2, 0), (3, 0), (4, 0), (5, 0), (6, 0), (7, 0), (8, 0), (9, 0), (10, 0), (11, 0), (12, 1), (13, 0), (14, 0)] (by kernel_rfl) (cls (Below.refl _ _).drew) ?_
  repeat (refine mix0 rfl (fun K hK => ?_); go_simp; refine hK _ ?_; clear hK K)
  refine mix1 rfl (fun K hK => ?_); go_simp; refine hK _ _ (cls (Below.refl _ _).drew) ?_; clear hK K
  repeat (refine mix0 rfl (fun K hK => ?_); go_simp; refine hK _ ?_; clear hK K)
  refine mixEnd ?_
  go_wp2
  rw [Exit.noGoto_ret]
  go_ret
  exact ⟨rfl, (balloc (Below.refl _ _) _).drew⟩
/-- Worlds in which what a lock has, and wants, is as it was. -/
abbrev Hcl (W : World) (b r : Nat) (l : Lk) (T : Value) : World → Prop := fun u => Mod (fun g => g = b ∨ blk T = some g) W u ∧ u.cell? ⟨b, 2 + r * 4, none⟩ = some (.int .i64 l.has) ∧ u.cell? ⟨b, 2 + r * 4 + 2, none⟩ = some (.int .i64 l.wants)
set_option maxRecDepth 100000 in
set_option maxHeartbeats 2000000 in
theorem hHear_any {w : World} {b : Nat} {h : Ho} (x : IsH w b h) (n : Nt) (hc : ∀ r : Nat, r < 16 → 0 ≤ (h.lk r).count ∧ (h.lk r).count ≤ 4611686018427387900) :
    Calls Try.prog 21 #[.pointer (some ⟨b, 0, none⟩), ntV n] w fun e w' => ∃ T, e = .returned T ∧ RN w' T (hearT h n) ∧ IsH w' b (hearH h n) ∧ Mod (· = b) w w' ∧ ∀ g, blk T = some g → w.heap.size ≤ g := by
  obtain ⟨W, HW⟩ : ∃ x, Hid (w.alloc (.cells #[.int .i64 n.kind, .int .i64 n.epoch, .int .i64 n.res, .int .i64 n.mode, .int .i64 n.seq] 23) = x) := ⟨_, Lib.hid rfl⟩
  obtain ⟨p, Hp⟩ : ∃ x, Hid (w.heap.size = x) := ⟨_, Lib.hid rfl⟩
  have HB : Hid (Below w.heap.size w W) := Lib.hid (by rw [← HW.out]; exact balloc (Below.refl _ _) _)
  have HX0 : Hid (b < w.heap.size) := Lib.hid x.lt
  have hbp : b ≠ p := by have := x.lt; have := Hp.out; omega
  have X := Lib.hid (x.below HB.out)
  have N0 : Hid (NtAt W p n) := Lib.hid (by rw [← HW.out, ← Hp.out]; exact NtAt.new w n _)
  have hs := x.sz
  obtain ⟨RS, HRS⟩ : ∃ q, Hid (hearT h n = q) := ⟨_, Lib.hid rfl⟩
  obtain ⟨RH, HRH⟩ : ∃ q, Hid (hearH h n = q) := ⟨_, Lib.hid rfl⟩
  rw [HRS.out, HRH.out]
  obtain ⟨q, Hq⟩ : ∃ q, Hid (meantB n h.ep h.sz = q) := ⟨_, Lib.hid rfl⟩
  have qe : ∀ y : In (Abv W), y.u.cell? ⟨b, 0, none⟩ = some (.int .i64 h.ep) := fun y => (X.out.below y.is).c0
  have qs : ∀ y : In (Abv W), y.u.cell? ⟨b, 1, none⟩ = some (.int .i64 h.sz) := fun y => (X.out.below y.is).c1
  have t0 : ∀ y : In (Abv W), y.u.cell? ⟨p, 0, none⟩ = some (.int .i64 n.kind) := fun y => (N0.out.below y.is).c0
  have t1 : ∀ y : In (Abv W), y.u.cell? ⟨p, 1, none⟩ = some (.int .i64 n.epoch) := fun y => (N0.out.below y.is).c1
  have t2 : ∀ y : In (Abv W), y.u.cell? ⟨p, 2, none⟩ = some (.int .i64 n.res) := fun y => (N0.out.below y.is).c2
  have t3 : ∀ y : In (Abv W), y.u.cell? ⟨p, 3, none⟩ = some (.int .i64 n.mode) := fun y => (N0.out.below y.is).c3
  have t4 : ∀ y : In (Abv W), y.u.cell? ⟨p, 4, none⟩ = some (.int .i64 n.seq) := fun y => (N0.out.below y.is).c4
  clear x
  go_enter Try.func21, Try.ntmps21
  go_wp2_with fail
  go_step3
  go_wp2_with fail
  rw [HW.out, Hp.out]
  refine wp_region_mix (by kernel_rfl) (Cls (Abv W)) [(0, 0), (1, 0), (2, 0), (3, 0), (4, 0), (5, 0), (6, 0), (7, 0), (8, 0), (9, 0), (10, 0), (11, 0), (12, 1), (13, 0), (14, 0)] (by kernel_rfl) (cls (Below.refl _ _).drew) ?_
  repeat (refine mix0 rfl (fun K hK => ?_); go_simp; refine hK _ ?_; clear hK K)
  refine mix1 rfl (fun K hK => ?_); go_simp
  refine (meant_any W.drew n h.ep h.sz).mono ?_
  rw [Hq.out]
  rintro e w1 ⟨rfl, hb⟩
  have B1 : Hid (Abv W w1) := Lib.hid (bnext (drewB _) hb)
  refine ⟨_, rfl, hK _ _ (cls B1.out) ?_⟩
  clear hK K hb
  repeat (refine mix0 rfl (fun K hK => ?_); go_simp; refine hK _ ?_; clear hK K)
  refine mixEnd ?_
  clear qe qs t0 t1 t2 t3 t4
  have X1 := Lib.hid (X.out.below B1.out)
  have N1 := Lib.hid (N0.out.below B1.out)
  have M1 : Hid (Mod (· = b) w w1) := Lib.hid (Mod.of_below (bnext HB.out B1.out))
  cases q
  · have HR : Hid (RS = [] ∧ RH = h) := Lib.hid (by rw [← HRS.out, ← HRH.out, hearT, hearH, Hq.out]; exact ⟨rfl, rfl⟩)
    go_wp2
    rw [Exit.noGoto_ret]
    go_ret
    exact ⟨_, rfl, by rw [HR.out.1]; exact RG.nil _ _ _, by rw [HR.out.2]; exact X1.out, M1.out, fun g hg => by cases hg⟩
  · have hres : ∃ r : Nat, r < 16 ∧ n.res = (r : Int) ∧ amgB n.res h.sz = true := by
      have h1 := Hq.out
      simp only [meantB, Bool.and_eq_true] at h1
      rcases amg_cases n.res h.sz hs with h2 | h2
      · exact h2
      · rw [h1.2] at h2; cases h2
    obtain ⟨r, hr, hnr, hz⟩ := hres
    have HR : Hid (RS = hearS h.ep (h.lk r) n ∧ RH = h.put r (hearL (h.lk r) n)) := Lib.hid (by rw [← HRS.out, ← HRH.out, hearT, hearH, Hq.out, hnr]; exact ⟨rfl, rfl⟩)
    rw [hnr] at hz
    have Hl := Lib.hid (lock_in X1.out hr hz)
    have hcr := hc r hr
    have c2 := N1.out.c2
    have c0 := N1.out.c0
    rw [hnr] at c2
    clear hc hz hs
    go_wp2_with fail
    refine Hl.out.mono ?_
    rintro e w2 ⟨rfl, rfl⟩
    clear Hl
    by_cases k3 : n.kind = 3
    · have b3 := beq_yes k3
      have c0' := X1.out.k2 r hr
      have HS : Hid (hearS h.ep (h.lk r) n = []) := Lib.hid (by rw [hearS, if_neg (fun e => by have := e.1; omega)])
      have HLd : Hid (hearL (h.lk r) n = (if (h.lk r).wants = 0 ∨ (h.lk r).count ≠ n.seq ∨ covB n.mode (h.lk r).wants = false then h.lk r else ⟨n.mode, n.mode, 0, (h.lk r).count⟩)) := Lib.hid (by rw [hearL, if_pos k3])
      clear k3
      have t2 : ∀ y : In (Abv w1), y.u.cell? ⟨p, 3, none⟩ = some (.int .i64 n.mode) := fun y => (N1.out.below y.is).c3
      have t3 : ∀ y : In (Abv w1), y.u.cell? ⟨p, 4, none⟩ = some (.int .i64 n.seq) := fun y => (N1.out.below y.is).c4
      have u2 : ∀ y : In (Abv w1), y.u.cell? ⟨b, 2 + r * 4 + 2, none⟩ = some (.int .i64 (h.lk r).wants) := fun y => (X1.out.below y.is).k2 r hr
      have u3 : ∀ y : In (Abv w1), y.u.cell? ⟨b, 2 + r * 4 + 3, none⟩ = some (.int .i64 (h.lk r).count) := fun y => (X1.out.below y.is).k3 r hr
      by_cases hw0 : (h.lk r).wants = 0
      · have hb0 := beq_yes hw0
        have HL : Hid (hearL (h.lk r) n = h.lk r) := Lib.hid (by rw [HLd.out, if_pos (.inl hw0)])
        clear hw0
        go_wp2_with fail
        go_step3
        go_wp2_with fail
        refine wp_region_mix (by kernel_rfl) (Cls (Abv w1)) [(0, 0), (1, 0), (2, 0), (3, 0), (4, 0), (5, 0), (6, 0), (7, 0), (8, 0), (9, 0), (10, 0), (11, 0), (12, 0), (13, 0), (14, 0), (15, 0), (16, 0), (17, 0), (18, 0), (19, 0), (20, 0), (21, 1), (22, 0), (23, 0)] (by kernel_rfl) (cls (Below.refl _ w1).drew) ?_
        repeat (refine mix0 rfl (fun K hK => ?_); go_simp; refine hK _ ?_; clear hK K)
        refine mix1 rfl (fun K hK => ?_); go_simp; refine hK _ _ (cls (Below.refl _ w1).drew) ?_; clear hK K
        repeat (refine mix0 rfl (fun K hK => ?_); go_simp; refine hK _ ?_; clear hK K)
        refine mixEnd ?_
        clear t2 t3 u2 u3
        have HX : Hid (IsH w1.drew b h) := Lib.hid (X1.out.below (drewB _))
        have HM : Hid (Mod (· = b) w w1.drew) := Lib.hid (M1.out.drew)
        go_wp2
        rw [Exit.noGoto_ret]
        go_ret
        exact ⟨_, rfl, by rw [HR.out.1, HS.out]; exact RG.nil _ _ _, by rw [HR.out.2, HL.out, Ho.put_same]; exact HX.out, HM.out, fun g hg => by cases hg⟩
      · have hb0 := beq_no hw0
        by_cases hcs : (h.lk r).count = n.seq
        · have hb1 : ((h.lk r).count != n.seq) = false := bne_no' hcs
          obtain ⟨q3, Hq3⟩ : ∃ q, Hid (covB n.mode (h.lk r).wants = q) := ⟨_, Lib.hid rfl⟩
          have HLd2 : Hid (hearL (h.lk r) n = if q3 then ⟨n.mode, n.mode, 0, (h.lk r).count⟩ else h.lk r) := Lib.hid (by
            rw [HLd.out, Hq3.out]
            cases q3
            · rw [if_pos (.inr (.inr rfl))]; rfl
            · rw [if_neg (by rintro (e | e | e); exact hw0 e; exact e hcs; cases e)]; rfl)
          clear hw0 hcs
          go_wp2_with fail
          go_step3
          go_wp2_with fail
          refine wp_region_mix (by kernel_rfl) (Cls (Abv w1)) [(0, 0), (1, 0), (2, 0), (3, 0), (4, 0), (5, 0), (6, 0), (7, 0), (8, 0), (9, 0), (10, 0), (11, 0), (12, 0), (13, 0), (14, 0), (15, 0), (16, 0), (17, 0), (18, 0), (19, 0), (20, 0), (21, 1), (22, 0), (23, 0)] (by kernel_rfl) (cls (Below.refl _ w1).drew) ?_
          repeat (refine mix0 rfl (fun K hK => ?_); go_simp; refine hK _ ?_; clear hK K)
          refine mix1 rfl (fun K hK => ?_); go_simp
          refine (Covers_any w1.drew n.mode (h.lk r).wants).mono ?_
          rw [Hq3.out]
          rintro e w3 ⟨rfl, hb⟩
          have B3 : Hid (Abv w1 w3) := Lib.hid (bnext (drewB _) hb)
          refine ⟨_, rfl, hK _ _ (cls B3.out) ?_⟩
          clear hK K hb
          repeat (refine mix0 rfl (fun K hK => ?_); go_simp; refine hK _ ?_; clear hK K)
          refine mixEnd ?_
          clear t2 t3 u2 u3
          have X3 := Lib.hid (X1.out.below B3.out)
          have N3 := Lib.hid (N1.out.below B3.out)
          have M3 : Hid (Mod (· = b) w w3) := Lib.hid (M1.out.trans (Mod.of_below B3.out))
          cases q3
          · have HL : Hid (hearL (h.lk r) n = h.lk r) := Lib.hid (by rw [HLd2.out]; rfl)
            go_wp2
            rw [Exit.noGoto_ret]
            go_ret
            exact ⟨_, rfl, by rw [HR.out.1, HS.out]; exact RG.nil _ _ _, by rw [HR.out.2, HL.out, Ho.put_same]; exact X3.out, M3.out, fun g hg => by cases hg⟩
          · have c3 := N3.out.c3
            go_wp2_with fail
            refine (set_any X3.out hr n.mode).mono ?_
            rintro e w4 ⟨rfl, hx, hm⟩
            have X4 := Lib.hid hx
            have M4 := Lib.hid (M3.out.trans hm)
            clear hx hm
            go_wp2
            rw [Exit.noGoto_ret]
            go_ret
            exact ⟨_, rfl, by rw [HR.out.1, HS.out]; exact RG.nil _ _ _, by rw [HR.out.2, HLd2.out]; exact X4.out, M4.out, fun g hg => by cases hg⟩
        · have hb1 : ((h.lk r).count != n.seq) = true := bne_yes' hcs
          have HL : Hid (hearL (h.lk r) n = h.lk r) := Lib.hid (by rw [HLd.out, if_pos (.inr (.inl hcs))])
          clear hcs hw0
          go_wp2_with fail
          go_step3
          go_wp2_with fail
          refine wp_region_mix (by kernel_rfl) (Cls (Abv w1)) [(0, 0), (1, 0), (2, 0), (3, 0), (4, 0), (5, 0), (6, 0), (7, 0), (8, 0), (9, 0), (10, 0), (11, 0), (12, 0), (13, 0), (14, 0), (15, 0), (16, 0), (17, 0), (18, 0), (19, 0), (20, 0), (21, 1), (22, 0), (23, 0)] (by kernel_rfl) (cls (Below.refl _ w1).drew) ?_
          repeat (refine mix0 rfl (fun K hK => ?_); go_simp; refine hK _ ?_; clear hK K)
          refine mix1 rfl (fun K hK => ?_); go_simp; refine hK _ _ (cls (Below.refl _ w1).drew) ?_; clear hK K
          repeat (refine mix0 rfl (fun K hK => ?_); go_simp; refine hK _ ?_; clear hK K)
          refine mixEnd ?_
          clear t2 t3 u2 u3
          have HX : Hid (IsH w1.drew b h) := Lib.hid (X1.out.below (drewB _))
          have HM : Hid (Mod (· = b) w w1.drew) := Lib.hid (M1.out.drew)
          go_wp2
          rw [Exit.noGoto_ret]
          go_ret
          exact ⟨_, rfl, by rw [HR.out.1, HS.out]; exact RG.nil _ _ _, by rw [HR.out.2, HL.out, Ho.put_same]; exact HX.out, HM.out, fun g hg => by cases hg⟩
    · by_cases k4 : n.kind = 4
      · have b3 := beq_no k3
        have b4 := beq_yes k4
        obtain ⟨q4, Hq4⟩ : ∃ q, Hid (stB (h.lk r).has n.mode = q) := ⟨_, Lib.hid rfl⟩
        have HLd : Hid (hearL (h.lk r) n = if q4 then ⟨(h.lk r).has, if stB (h.lk r).keeps n.mode then n.mode else (h.lk r).keeps, (h.lk r).wants, (h.lk r).count⟩ else ⟨(h.lk r).has, (h.lk r).keeps, (h.lk r).wants, (h.lk r).count + (if (h.lk r).wants = 0 then 1 else 2)⟩) := Lib.hid (by rw [hearL, if_neg k3, if_pos k4, Hq4.out])
        have HSd : Hid (hearS h.ep (h.lk r) n = if q4 then [] else ⟨2, h.ep, (r : Int), (h.lk r).has, (h.lk r).count + 1⟩ :: (if (h.lk r).wants = 0 then [] else [⟨1, h.ep, (r : Int), (h.lk r).wants, (h.lk r).count + 2⟩])) := Lib.hid (by
          rw [hearS, Hq4.out, hnr]
          cases q4
          · rw [if_pos ⟨k4, rfl⟩]; rfl
          · rw [if_neg (fun e => by cases e.2)]; rfl)
        clear k3 k4
        have t3 : ∀ y : In (Abv w1), y.u.cell? ⟨p, 3, none⟩ = some (.int .i64 n.mode) := fun y => (N1.out.below y.is).c3
        have u0 : ∀ y : In (Abv w1), y.u.cell? ⟨b, 2 + r * 4, none⟩ = some (.int .i64 (h.lk r).has) := fun y => (X1.out.below y.is).k0 r hr
        go_wp2_with fail
        go_step3
        go_wp2_with fail
        refine wp_region_mix (by kernel_rfl) (Cls (Abv w1)) [(0, 0), (1, 0), (2, 0), (3, 0), (4, 0), (5, 0), (6, 1)] (by kernel_rfl) (cls (Below.refl _ w1).drew) ?_
        repeat (refine mix0 rfl (fun K hK => ?_); go_simp; refine hK _ ?_; clear hK K)
        refine mix1 rfl (fun K hK => ?_); go_simp
        refine (stronger_any w1.drew (h.lk r).has n.mode).mono ?_
        rw [Hq4.out]
        rintro e w3 ⟨rfl, hb⟩
        have B3 : Hid (Abv w1 w3) := Lib.hid (bnext (drewB _) hb)
        refine ⟨_, rfl, hK _ _ (cls B3.out) ?_⟩
        clear hK K hb
        refine mixEnd ?_
        clear t3 u0
        have X3 := Lib.hid (X1.out.below B3.out)
        have N3 := Lib.hid (N1.out.below B3.out)
        have M3 : Hid (Mod (· = b) w w3) := Lib.hid (M1.out.trans (Mod.of_below B3.out))
        cases q4
        · have f3 := N3.out.c2
          rw [hnr] at f3
          have F3 := Lib.hid f3
          clear f3
          have t2 : ∀ y : In (Hcl w3 b r (h.lk r) (.slice none 0 0)), y.u.cell? ⟨p, 2, none⟩ = some (.int .i64 (r : Int)) := fun y => (y.is.1.cell (p := ⟨p, 2, none⟩) (lt_of_cell F3.out) (fun e => e.elim (fun e => hbp e.symm) (fun e => by cases e))).trans F3.out
          have u0 : ∀ y : In (Hcl w3 b r (h.lk r) (.slice none 0 0)), y.u.cell? ⟨b, 2 + r * 4, none⟩ = some (.int .i64 (h.lk r).has) := fun y => y.is.2.1
          have in3 : Hcl w3 b r (h.lk r) (.slice none 0 0) w3 := ⟨Mod.refl _ _, X3.out.k0 r hr, X3.out.k2 r hr⟩
          go_wp2_with fail
          have hne : Nonempty (In (Hcl w3 b r (h.lk r) (.slice none 0 0))) := ⟨⟨w3, in3⟩⟩
          refine wp_region_mix (by kernel_rfl) (Cls (Hcl w3 b r (h.lk r) (.slice none 0 0))) [(0, 0), (1, 0), (2, 0), (3, 0), (4, 0), (5, 0), (6, 0), (7, 0), (8, 1), (9, 1), (10, 1), (11, 0)] (by kernel_rfl) (cls ⟨in3.1.drew, in3.2⟩) ?_
          repeat (refine mix0 rfl (fun K hK => ?_); go_simp; refine hK _ ?_; clear hK K)
          refine mix1 rfl (fun K hK => ?_); go_simp
          refine (next_any (X3.out.below (drewB _)) hr hcr.1 (by omega) _ _).mono ?_
          rintro e w4 ⟨rfl, hx, hm⟩
          have X4 := Lib.hid hx
          have M4b : Hid (Mod (· = b) w3 w4) := Lib.hid ((Mod.of_below (drewB w3)).trans hm)
          have M4 : Hid (Mod (· = b) w w4) := Lib.hid (M3.out.trans M4b.out)
          have k40 : w4.cell? ⟨b, 2 + r * 4, none⟩ = some (.int .i64 (h.lk r).has) := by have := hx.k0 r hr; rwa [Ho.put_at] at this
          have k42 : w4.cell? ⟨b, 2 + r * 4 + 2, none⟩ = some (.int .i64 (h.lk r).wants) := by have := hx.k2 r hr; rwa [Ho.put_at] at this
          have I4 : Hid (Hcl w3 b r (h.lk r) (.slice none 0 0) w4) := Lib.hid ⟨M4b.out.mono (fun _ _ h => .inl h), k40, k42⟩
          refine ⟨_, rfl, hK _ _ (cls I4.out) ?_⟩
          clear hK K hx hm k40 k42
          refine mix1 rfl (fun K hK => ?_); go_simp
          obtain ⟨w5, HW5⟩ : ∃ x, Hid (w4.alloc (.cells #[.int .i64 2, .int .i64 h.ep, .int .i64 (r : Int), .int .i64 (h.lk r).has, .int .i64 ((h.lk r).count + 1)] 23) = x) := ⟨_, Lib.hid rfl⟩
          obtain ⟨p5, Hp5⟩ : ∃ x, Hid (w4.heap.size = x) := ⟨_, Lib.hid rfl⟩
          have B45 : Hid (Below w4.heap.size w4 w5) := Lib.hid (by rw [← HW5.out]; exact balloc (Below.refl _ _) _)
          have G5 : Hid (IsG w5 5 ntE (some ⟨p5, 0, none⟩) 1 [⟨2, h.ep, (r : Int), (h.lk r).has, (h.lk r).count + 1⟩]) := Lib.hid (by rw [← HW5.out, ← Hp5.out]; exact nt_one w4 ⟨2, h.ep, (r : Int), (h.lk r).has, (h.lk r).count + 1⟩ _)
          have X5 := Lib.hid (X4.out.below B45.out)
          have k50 : w5.cell? ⟨b, 2 + r * 4, none⟩ = some (.int .i64 (h.lk r).has) := by have := X5.out.k0 r hr; rwa [Ho.put_at] at this
          have k52 : w5.cell? ⟨b, 2 + r * 4 + 2, none⟩ = some (.int .i64 (h.lk r).wants) := by have := X5.out.k2 r hr; rwa [Ho.put_at] at this
          have M5b : Hid (Mod (· = b) w3 w5) := Lib.hid (M4b.out.trans (Mod.of_below B45.out))
          have I5 : Hid (Hcl w3 b r (h.lk r) (.slice none 0 0) w5) := Lib.hid ⟨M5b.out.mono (fun _ _ h => .inl h), k50, k52⟩
          rw [HW5.out, Hp5.out]
          refine hK _ _ (cls I5.out) ?_
          clear hK K k50 k52
          obtain ⟨T6, w6, hr6, r6, a6⟩ := appG ntInf ntEnc (RG.nil w5 5 ntE) (c := 1) G5.out (by decide) (by decide) 51
          have Hr6 := Lib.hid hr6
          have B56 : Hid (Below w5.heap.size w5 w6) := Lib.hid (a6.mod.to_below (fun i _ e => by cases e))
          have X6 := Lib.hid (X5.out.below B56.out)
          have k60 : w6.cell? ⟨b, 2 + r * 4, none⟩ = some (.int .i64 (h.lk r).has) := by have := X6.out.k0 r hr; rwa [Ho.put_at] at this
          have k62 : w6.cell? ⟨b, 2 + r * 4 + 2, none⟩ = some (.int .i64 (h.lk r).wants) := by have := X6.out.k2 r hr; rwa [Ho.put_at] at this
          have M6b : Hid (Mod (· = b) w3 w6) := Lib.hid (M5b.out.trans (Mod.of_below B56.out))
          have M6 : Hid (Mod (· = b) w w6) := Lib.hid (M3.out.trans M6b.out)
          have I6 : Hid (Hcl w3 b r (h.lk r) (.slice none 0 0) w6) := Lib.hid ⟨M6b.out.mono (fun _ _ h => .inl h), k60, k62⟩
          have R6 : Hid (RN w6 T6 [⟨2, h.ep, (r : Int), (h.lk r).has, (h.lk r).count + 1⟩]) := Lib.hid r6
          have L6 : Hid (∀ g, blk T6 = some g → W.heap.size ≤ g) := Lib.hid (fun g hg => by
            rcases a6.blk with e | ⟨g', e, h'⟩
            · rw [e] at hg; cases hg
            · rw [e] at hg; injection hg with hg; have := B1.out.size; have := B3.out.size; have := M5b.out.size; omega)
          refine mix_append rfl rfl (.tmp 71) (.tmp 80) 51 rfl (by exact Hr6.out) (cls I6.out) ?_
          clear hr6 r6 a6 k60 k62
          repeat (refine mix0 rfl (fun K hK => ?_); go_simp; refine hK _ ?_; clear hK K)
          refine mixEnd ?_
          clear t2 u0 in3 hne
          have X6' : Hid (IsH w6 b (h.put r ⟨(h.lk r).has, (h.lk r).keeps, (h.lk r).wants, (h.lk r).count + 1⟩)) := X6
          by_cases hw0 : (h.lk r).wants = 0
          · have hb0 : ((h.lk r).wants != 0) = false := bne_no' hw0
            have HL : Hid (hearL (h.lk r) n = ⟨(h.lk r).has, (h.lk r).keeps, (h.lk r).wants, (h.lk r).count + 1⟩) := Lib.hid (by rw [HLd.out, if_pos hw0]; rfl)
            have HS : Hid (hearS h.ep (h.lk r) n = [⟨2, h.ep, (r : Int), (h.lk r).has, (h.lk r).count + 1⟩]) := Lib.hid (by rw [HSd.out, if_pos hw0]; rfl)
            have u2 := I6.out.2.2
            clear hw0
            go_wp2
            rw [Exit.noGoto_ret]
            go_ret
            exact ⟨T6, rfl, by rw [HR.out.1, HS.out]; exact R6.out, by rw [HR.out.2, HL.out]; exact X6.out, M6.out, fun g hg => Nat.le_trans HB.out.size (L6.out g hg)⟩
          · have hb0 : ((h.lk r).wants != 0) = true := bne_yes' hw0
            have HL : Hid (hearL (h.lk r) n = ⟨(h.lk r).has, (h.lk r).keeps, (h.lk r).wants, (h.lk r).count + 1 + 1⟩) := Lib.hid (by rw [HLd.out, if_neg hw0, Int.add_assoc]; rfl)
            have HS : Hid (hearS h.ep (h.lk r) n = [⟨2, h.ep, (r : Int), (h.lk r).has, (h.lk r).count + 1⟩] ++ [⟨1, h.ep, (r : Int), (h.lk r).wants, (h.lk r).count + 1 + 1⟩]) := Lib.hid (by rw [HSd.out, if_neg hw0, Int.add_assoc]; rfl)
            have u2 := I6.out.2.2
            have F6 := Lib.hid ((M6b.out.cell (p := ⟨p, 2, none⟩) (lt_of_cell F3.out) (fun e => hbp e.symm)).trans F3.out)
            have HpW : Hid (p < W.heap.size) := Lib.hid N0.out.lt
            have HT6 : Hid (∀ g, blk T6 = some g → g < w6.heap.size ∧ g ≠ b ∧ g ≠ p) := Lib.hid (fun g hg => ⟨R6.out.lt hg, fun e => by have := L6.out g hg; have := HX0.out; have := HB.out.size; omega, fun e => by have := L6.out g hg; have := HpW.out; omega⟩)
            have t2 : ∀ y : In (Hcl w6 b r (h.lk r) T6), y.u.cell? ⟨p, 2, none⟩ = some (.int .i64 (r : Int)) := fun y => (y.is.1.cell (p := ⟨p, 2, none⟩) (lt_of_cell F6.out) (fun e => e.elim (fun e => hbp e.symm) (fun e => (HT6.out p e).2.2 rfl))).trans F6.out
            have u0 : ∀ y : In (Hcl w6 b r (h.lk r) T6), y.u.cell? ⟨b, 2 + r * 4 + 2, none⟩ = some (.int .i64 (h.lk r).wants) := fun y => y.is.2.2
            have in3 : Hcl w6 b r (h.lk r) T6 w6 := ⟨Mod.refl _ _, I6.out.2.1, I6.out.2.2⟩
            clear hw0
            go_wp2_with fail
            have hne : Nonempty (In (Hcl w6 b r (h.lk r) T6)) := ⟨⟨w6, in3⟩⟩
            clear u2
            refine wp_region_mix (by kernel_rfl) (Cls (Hcl w6 b r (h.lk r) T6)) [(0, 0), (1, 0), (2, 0), (3, 0), (4, 0), (5, 0), (6, 0), (7, 0), (8, 1), (9, 1), (10, 1), (11, 0)] (by kernel_rfl) (cls ⟨in3.1.drew, in3.2⟩) ?_
            repeat (refine mix0 rfl (fun K hK => ?_); go_simp; refine hK _ ?_; clear hK K)
            refine mix1 rfl (fun K hK => ?_); go_simp
            have hat := Ho.put_at h r ⟨(h.lk r).has, (h.lk r).keeps, (h.lk r).wants, (h.lk r).count + 1⟩
            refine (next_any (X6'.out.below (drewB _)) hr (by rw [hat]; show 0 ≤ (h.lk r).count + 1; omega) (by rw [hat]; show (h.lk r).count + 1 ≤ _; omega) _ _).mono ?_
            rw [hat, Ho.put_put, Ho.put_ep]
            rintro e w7 ⟨rfl, hx, hm⟩
            have X7 := Lib.hid hx
            have M7b : Hid (Mod (· = b) w6 w7) := Lib.hid ((Mod.of_below (drewB w6)).trans hm)
            have k40 : w7.cell? ⟨b, 2 + r * 4, none⟩ = some (.int .i64 (h.lk r).has) := by have := hx.k0 r hr; rwa [Ho.put_at] at this
            have k42 : w7.cell? ⟨b, 2 + r * 4 + 2, none⟩ = some (.int .i64 (h.lk r).wants) := by have := hx.k2 r hr; rwa [Ho.put_at] at this
            have I7 : Hid (Hcl w6 b r (h.lk r) T6 w7) := Lib.hid ⟨M7b.out.mono (fun _ _ h => .inl h), k40, k42⟩
            refine ⟨_, rfl, hK _ _ (cls I7.out) ?_⟩
            clear hK K hx hm k40 k42 hat
            refine mix1 rfl (fun K hK => ?_); go_simp
            obtain ⟨w8, HW8⟩ : ∃ x, Hid (w7.alloc (.cells #[.int .i64 1, .int .i64 h.ep, .int .i64 (r : Int), .int .i64 (h.lk r).wants, .int .i64 ((h.lk r).count + 1 + 1)] 23) = x) := ⟨_, Lib.hid rfl⟩
            obtain ⟨p8, Hp8⟩ : ∃ x, Hid (w7.heap.size = x) := ⟨_, Lib.hid rfl⟩
            have B78 : Hid (Below w7.heap.size w7 w8) := Lib.hid (by rw [← HW8.out]; exact balloc (Below.refl _ _) _)
            have G8 : Hid (IsG w8 5 ntE (some ⟨p8, 0, none⟩) 1 [⟨1, h.ep, (r : Int), (h.lk r).wants, (h.lk r).count + 1 + 1⟩]) := Lib.hid (by rw [← HW8.out, ← Hp8.out]; exact nt_one w7 ⟨1, h.ep, (r : Int), (h.lk r).wants, (h.lk r).count + 1 + 1⟩ _)
            have X8 := Lib.hid (X7.out.below B78.out)
            have k50 : w8.cell? ⟨b, 2 + r * 4, none⟩ = some (.int .i64 (h.lk r).has) := by have := X8.out.k0 r hr; rwa [Ho.put_at] at this
            have k52 : w8.cell? ⟨b, 2 + r * 4 + 2, none⟩ = some (.int .i64 (h.lk r).wants) := by have := X8.out.k2 r hr; rwa [Ho.put_at] at this
            have M8b : Hid (Mod (· = b) w6 w8) := Lib.hid (M7b.out.trans (Mod.of_below B78.out))
            have I8 : Hid (Hcl w6 b r (h.lk r) T6 w8) := Lib.hid ⟨M8b.out.mono (fun _ _ h => .inl h), k50, k52⟩
            rw [HW8.out, Hp8.out]
            refine hK _ _ (cls I8.out) ?_
            clear hK K k50 k52
            have R8 : Hid (RN w8 T6 [⟨2, h.ep, (r : Int), (h.lk r).has, (h.lk r).count + 1⟩]) := Lib.hid (R6.out.later M8b.out (fun g hg => (HT6.out g hg).2.1))
            obtain ⟨T9, w9, hr9, r9, a9⟩ := appG ntInf ntEnc R8.out (c := 1) G8.out (by simp) (by decide) 51
            have Hr9 := Lib.hid hr9
            have hTb : ¬ (blk T6 = some b) := fun e => (HT6.out b e).2.1 rfl
            have X9 := Lib.hid (X8.out.later a9.mod hTb)
            have k60 : w9.cell? ⟨b, 2 + r * 4, none⟩ = some (.int .i64 (h.lk r).has) := by have := X9.out.k0 r hr; rwa [Ho.put_at] at this
            have k62 : w9.cell? ⟨b, 2 + r * 4 + 2, none⟩ = some (.int .i64 (h.lk r).wants) := by have := X9.out.k2 r hr; rwa [Ho.put_at] at this
            have M9b : Hid (Mod (fun g => g = b ∨ blk T6 = some g) w6 w9) := Lib.hid ((M8b.out.mono (fun _ _ h => .inl h)).trans (a9.mod.mono (fun _ _ h => .inr h)))
            have M9 : Hid (Mod (· = b) w w9) := Lib.hid ⟨M9b.out.os.trans M6.out.os, M9b.out.tape.trans M6.out.tape, M9b.out.output.trans M6.out.output, Nat.le_trans M6.out.size M9b.out.size, fun k hk hs => (M9b.out.block k (Nat.lt_of_lt_of_le hk M6.out.size) (fun e => e.elim hs (fun e => by have := L6.out k e; have := HB.out.size; omega))).trans (M6.out.block k hk hs)⟩
            have I9 : Hid (Hcl w6 b r (h.lk r) T6 w9) := Lib.hid ⟨M9b.out, k60, k62⟩
            have R9 : Hid (RN w9 T9 ([⟨2, h.ep, (r : Int), (h.lk r).has, (h.lk r).count + 1⟩] ++ [⟨1, h.ep, (r : Int), (h.lk r).wants, (h.lk r).count + 1 + 1⟩])) := Lib.hid r9
            have L9 : Hid (∀ g, blk T9 = some g → w.heap.size ≤ g) := Lib.hid (fun g hg => by
              rcases a9.blk with e | ⟨g', e, h'⟩
              · exact Nat.le_trans HB.out.size (L6.out g (e ▸ hg))
              · rw [e] at hg; injection hg with hg; have := M6.out.size; have := M8b.out.size; omega)
            refine mix_append rfl rfl (.tmp 87) (.tmp 96) 51 rfl (by exact Hr9.out) (cls I9.out) ?_
            clear hr9 r9 a9 k60 k62
            repeat (refine mix0 rfl (fun K hK => ?_); go_simp; refine hK _ ?_; clear hK K)
            refine mixEnd ?_
            clear t2 u0 in3 hne
            go_wp2
            try rw [Exit.noGoto_ret]
            go_ret
            exact ⟨T9, rfl, by rw [HR.out.1, HS.out]; exact R9.out, by rw [HR.out.2, HL.out]; exact X9.out, M9.out, L9.out⟩
        · have c3 := N3.out.c3
          have HL : Hid (hearL (h.lk r) n = ⟨(h.lk r).has, if stB (h.lk r).keeps n.mode then n.mode else (h.lk r).keeps, (h.lk r).wants, (h.lk r).count⟩) := Lib.hid (by rw [HLd.out]; rfl)
          have HS : Hid (hearS h.ep (h.lk r) n = []) := Lib.hid (by rw [HSd.out]; rfl)
          go_wp2_with fail
          refine (call_any X3.out hr n.mode).mono ?_
          rintro e w4 ⟨rfl, hx, hm⟩
          have X4 := Lib.hid hx
          have M4 := Lib.hid (M3.out.trans hm)
          clear hx hm
          go_wp2
          rw [Exit.noGoto_ret]
          go_ret
          exact ⟨_, rfl, by rw [HR.out.1, HS.out]; exact RG.nil _ _ _, by rw [HR.out.2, HL.out]; exact X4.out, M4.out, fun g hg => by cases hg⟩
      · have HL : Hid (hearL (h.lk r) n = h.lk r) := Lib.hid (by rw [hearL, if_neg k3, if_neg k4])
        have HS : Hid (hearS h.ep (h.lk r) n = []) := Lib.hid (by rw [hearS, if_neg (fun e => k4 e.1)])
        have b3 := beq_no k3
        have b4 := beq_no k4
        clear k3 k4
        go_wp2_with fail
        go_step3
        go_wp2_with fail
        rw [Exit.noGoto_ret]
        go_ret
        exact ⟨_, rfl, by rw [HR.out.1, HS.out]; exact RG.nil _ _ _, by rw [HR.out.2, HL.out, Ho.put_same]; exact X1.out, M1.out, fun g hg => by cases hg⟩
end Go.Proofs.Ythpmodohfjjjcaa
