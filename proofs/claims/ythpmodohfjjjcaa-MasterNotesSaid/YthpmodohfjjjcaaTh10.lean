/- What a table tells of a note that it hears. -/
import Derived.Test.YthpmodohfjjjcaaTt10
import Derived.Test.YthpmodohfjjjcaaPl9
namespace Go.Proofs.Ythpmodohfjjjcaa
open Go.RowKit

theorem newT_node (k : Op9) {h ws : List Cl} (x : OkQ h ws) {z : Int} (hz : thereB z = true) (m : Int) : ∀ c ∈ newT k h ws z m, 0 ≤ c.1 ∧ c.1 < 8 := by
  intro c hc
  rw [newT, if_pos hz, List.mem_append] at hc
  rcases hc with hc | hc
  · cases k with
    | want =>
      have hc' : c ∈ (wantM h ws z m).2 := hc
      have : c.1 = z := by
        unfold wantM at hc'
        split at hc'
        · simp at hc'
        · split at hc'
          · simp at hc'; rw [hc']
          · split at hc' <;> simp at hc'
      rw [this]
      exact there_iff hz
    | drop => cases hc
    | leave => cases hc
  · rw [srv_take] at hc
    have := (do_pre k x hz m).waits c (List.mem_of_mem_take hc)
    exact ⟨this.1, this.2.1⟩
theorem newT_length (k : Op9) {h ws : List Cl} (x : OkQ h ws) (z m : Int) : (newT k h ws z m).length ≤ 100 := by
  unfold newT
  split
  · have h1 := doT_length k h ws z m
    have h2 := srv_le (doW k h ws z m) (doH k h z m)
    have h3 := doW_length k h ws z m
    have h4 := dis_eight x.once x.waits
    rw [List.length_append]
    omega
  · simp
theorem ok_len {h ws : List Cl} (x : OkQ h ws) : h.length ≤ 50 ∧ ws.length ≤ 50 := by
  have h1 := dis_eight x.once x.waits
  have h2 := dis_eight (Ris.dis x.rising) x.has
  omega
theorem mw_ok {h ws : List Cl} (x : OkQ h ws) (z m : Int) : OkQ (mwH h ws z m) (mwW h ws z m) := by
  unfold mwH mwW
  split
  · exact x
  · exact new_ok .want x z m
theorem mwT_node {h ws : List Cl} (x : OkQ h ws) {z : Int} (hz : thereB z = true) (m : Int) : ∀ c ∈ mwT h ws z m, 0 ≤ c.1 ∧ c.1 < 8 := by
  unfold mwT
  split
  · simp
  · exact newT_node .want x hz m
theorem mwT_length {h ws : List Cl} (x : OkQ h ws) (z m : Int) : (mwT h ws z m).length ≤ 100 := by
  unfold mwT
  split
  · simp
  · exact newT_length .want x z m
theorem modeM_wf {h ws : List Cl} (x : OkQ h ws) (z : Int) : (Lit.int .i64 (modeM h z)).wf = true := by
  rcases mode_three' (ok_modeB x.has z) with e | e | e <;> rw [e] <;> rfl
theorem node_wf {z : Int} (hz : thereB z = true) : (Lit.int .i64 z).wf = true := by
  have h := there_iff hz
  have h2 : z = 0 ∨ z = 1 ∨ z = 2 ∨ z = 3 ∨ z = 4 ∨ z = 5 ∨ z = 6 ∨ z = 7 := by omega
  rcases h2 with rfl | rfl | rfl | rfl | rfl | rfl | rfl | rfl <;> rfl
/-! ### what is heard -/
def wTa (t : Ta) (r j : Nat) (n : Nt) : Ta := (t.mark r j n.seq).setQ r (mwH (t.h r) (t.ws r) (j : Int) n.mode) (mwW (t.h r) (t.ws r) (j : Int) n.mode)
def wTt (t : Ta) (r j : Nat) (n : Nt) : List Td := tdsM 3 t.ep r ((t.mark r j n.seq).last r) (mwT (t.h r) (t.ws r) (j : Int) n.mode) ++ tdsM 4 t.ep r ((t.mark r j n.seq).last r) (callsM (mwH (t.h r) (t.ws r) (j : Int) n.mode) (mwW (t.h r) (t.ws r) (j : Int) n.mode))
def dTa (t : Ta) (r j : Nat) (n : Nt) : Ta := (t.mark r j n.seq).setQ r (newH .drop (t.h r) (t.ws r) (j : Int) n.mode) (newW .drop (t.h r) (t.ws r) (j : Int) n.mode)
def dTt (t : Ta) (r j : Nat) (n : Nt) : List Td := tdsM 3 t.ep r ((t.mark r j n.seq).last r) (newT .drop (t.h r) (t.ws r) (j : Int) n.mode) ++ tdsM 4 t.ep r ((t.mark r j n.seq).last r) (callsM (newH .drop (t.h r) (t.ws r) (j : Int) n.mode) (newW .drop (t.h r) (t.ws r) (j : Int) n.mode))
/-- What is heard of one that is there, leaves. -/
def hTa (t : Ta) (r j : Nat) (n : Nt) : Ta :=
  if n.kind = 1 then (if n.seq < t.last r j ∨ n.mode = 0 ∨ n.seq = t.last r j then t else wTa t r j n)
  else if n.kind = 2 then (if n.seq ≤ t.last r j then t else dTa t r j n) else t
/-- What is told to that. -/
def hTt (t : Ta) (r j : Nat) (n : Nt) : List Td :=
  if n.kind = 1 then (if n.seq < t.last r j ∨ n.mode = 0 then [] else if n.seq = t.last r j then tdsM 3 t.ep r (t.last r) (enM (t.h r) (j : Int) n.mode) else wTt t r j n)
  else if n.kind = 2 then (if n.seq ≤ t.last r j then [] else dTt t r j n) else []
def tOk (t : Ta) (z : Int) (n : Nt) : Bool := amgB z 8 && meantB n t.ep t.sz
def tHa (t : Ta) (z : Int) (n : Nt) : Ta := if tOk t z n then hTa t n.res.toNat z.toNat n else t
def tHt (t : Ta) (z : Int) (n : Nt) : List Td := if tOk t z n then hTt t n.res.toNat z.toNat n else []
set_option maxRecDepth 100000 in
theorem tHear_nil (w : World) (z : Int) (n : Nt) :
    Calls Try.prog 20 #[.pointer none, .int .i64 z, ntV n] w fun e w' => e = .returned (.slice none 0 0) ∧ Below w.heap.size w w' := by
  rw [ntV_def]
  go_enter Try.func20, Try.ntmps20
  go_wp2_with fail
  go_step3
  go_wp2_with fail
  refine wp_region_mix (by kernel_rfl) (Cls (Abv (w.alloc (.cells #[.int .i64 n.kind, .int .i64 n.epoch, .int .i64 n.res, .int .i64 n.mode, .int .i64 n.seq] 23)))) [(0, 0), (1, 0), (2, 0), (3, 0), (4, 1), (5, 0), (6, 0), (7, 0), (8, 0), (9, 0), (10, 0), (11, 0), (12, 0), (13, 0), (14, 0), (15, 0), (16, 0), (17, 1), (18, 0), (19, 0)] (by kernel_rfl) (cls (Below.refl _ _).drew) ?_
  repeat (refine mix0 rfl (fun K hK => ?_); go_simp; refine hK _ ?_; clear hK K)
  refine mix1 rfl (fun K hK => ?_); go_simp; refine hK _ _ (cls (Below.refl _ _).drew) ?_; clear hK K
  repeat (refine mix0 rfl (fun K hK => ?_); go_simp; refine hK _ ?_; clear hK K)
  refine mix1 rfl (fun K hK => ?_); go_simp; refine hK _ _ (cls (Below.refl _ _).drew) ?_; clear hK K
  repeat (refine mix0 rfl (fun K hK => ?_); go_simp; refine hK _ ?_; clear hK K)
  refine mixEnd ?_
  go_wp2
  rw [Exit.noGoto_ret]
  go_ret
  exact ⟨rfl, (balloc (Below.refl _ _) _).drew⟩
set_option maxRecDepth 100000 in
set_option maxHeartbeats 4000000 in
theorem tHear_any {w : World} {tb : Nat} {t : Ta} (x : IsT w tb t) (hl : Tlt w tb) (z : Int) (n : Nt) :
    Calls Try.prog 20 #[.pointer (some ⟨tb, 0, none⟩), .int .i64 z, ntV n] w fun e w' => ∃ T', e = .returned T' ∧ RT w' T' (tHt t z n) ∧ IsT w' tb (tHa t z n) ∧ Tlt w' tb ∧ Mod (· = tb) w w' ∧ (∀ g, blk T' = some g → w.heap.size ≤ g) ∧ ∀ g, Tb w' tb g → Tb w tb g ∨ w.heap.size ≤ g := by
  obtain ⟨W, HW⟩ : ∃ x, Hid (w.alloc (.cells #[.int .i64 n.kind, .int .i64 n.epoch, .int .i64 n.res, .int .i64 n.mode, .int .i64 n.seq] 23) = x) := ⟨_, Lib.hid rfl⟩
  obtain ⟨p, Hp⟩ : ∃ x, Hid (w.heap.size = x) := ⟨_, Lib.hid rfl⟩
  have HB : Hid (Below w.heap.size w W) := Lib.hid (by rw [← HW.out]; exact balloc (Below.refl _ _) _)
  have X := Lib.hid (x.below HB.out)
  have L := Lib.hid (tlt_back hl (Mod.of_below (S := fun _ => False) HB.out) x.lt id)
  have HTw : Hid (∀ g, Tb W tb g → g < w.heap.size) := Lib.hid (fun g hg => (hl g (hg.back (Mod.of_below (S := fun _ => False) HB.out) x.lt id)).1)
  have Htw : Hid (tb < w.heap.size) := Lib.hid x.lt
  have N0 : Hid (NtAt W p n) := Lib.hid (by rw [← HW.out, ← Hp.out]; exact NtAt.new w n _)
  have hs := x.sz
  obtain ⟨RS, HRS⟩ : ∃ q, Hid (tHt t z n = q) := ⟨_, Lib.hid rfl⟩
  obtain ⟨RH, HRH⟩ : ∃ q, Hid (tHa t z n = q) := ⟨_, Lib.hid rfl⟩
  rw [HRS.out, HRH.out]
  obtain ⟨q0, Hq0⟩ : ∃ q, Hid (amgB z 8 = q) := ⟨_, Lib.hid rfl⟩
  obtain ⟨q, Hq⟩ : ∃ q, Hid (meantB n t.ep t.sz = q) := ⟨_, Lib.hid rfl⟩
  have qe : ∀ y : In (Abv W), y.u.cell? ⟨tb, 0, none⟩ = some (.int .i64 t.ep) := fun y => (X.out.below y.is).c0
  have qs : ∀ y : In (Abv W), y.u.cell? ⟨tb, 1, none⟩ = some (.int .i64 t.sz) := fun y => (X.out.below y.is).c1
  have t0 : ∀ y : In (Abv W), y.u.cell? ⟨p, 0, none⟩ = some (.int .i64 n.kind) := fun y => (N0.out.below y.is).c0
  have t1 : ∀ y : In (Abv W), y.u.cell? ⟨p, 1, none⟩ = some (.int .i64 n.epoch) := fun y => (N0.out.below y.is).c1
  have t2 : ∀ y : In (Abv W), y.u.cell? ⟨p, 2, none⟩ = some (.int .i64 n.res) := fun y => (N0.out.below y.is).c2
  have t3 : ∀ y : In (Abv W), y.u.cell? ⟨p, 3, none⟩ = some (.int .i64 n.mode) := fun y => (N0.out.below y.is).c3
  have t4 : ∀ y : In (Abv W), y.u.cell? ⟨p, 4, none⟩ = some (.int .i64 n.seq) := fun y => (N0.out.below y.is).c4
  clear x hl
  rw [ntV_def]
  go_enter Try.func20, Try.ntmps20
  go_wp2_with fail
  go_step3
  go_wp2_with fail
  rw [HW.out, Hp.out]
  refine wp_region_mix (by kernel_rfl) (Cls (Abv W)) [(0, 0), (1, 0), (2, 0), (3, 0), (4, 1), (5, 0), (6, 0), (7, 0), (8, 0), (9, 0), (10, 0), (11, 0), (12, 0), (13, 0), (14, 0), (15, 0), (16, 0), (17, 1), (18, 0), (19, 0)] (by kernel_rfl) (cls (Below.refl _ _).drew) ?_
  repeat (refine mix0 rfl (fun K hK => ?_); go_simp; refine hK _ ?_; clear hK K)
  refine mix1 rfl (fun K hK => ?_); go_simp
  refine (among_any W.drew z 8).mono ?_
  rw [Hq0.out]
  rintro e w0 ⟨rfl, rfl⟩
  refine ⟨_, rfl, hK _ _ (cls (drewB W)) ?_⟩
  clear hK K
  cases q0
  · repeat (refine mix0 rfl (fun K hK => ?_); go_simp; refine hK _ ?_; clear hK K)
    refine mix1 rfl (fun K hK => ?_); go_simp; refine hK _ _ (cls (Below.refl _ _).drew) ?_; clear hK K
    repeat (refine mix0 rfl (fun K hK => ?_); go_simp; refine hK _ ?_; clear hK K)
    refine mixEnd ?_
    clear qe qs t0 t1 t2 t3 t4
    have HR : Hid (RS = [] ∧ RH = t) := Lib.hid (by rw [← HRS.out, ← HRH.out, tHt, tHa, tOk, Hq0.out]; exact ⟨rfl, rfl⟩)
    go_wp2
    rw [Exit.noGoto_ret]
    go_ret
    exact ⟨_, rfl, by rw [HR.out.1]; exact RG.nil _ _ _, by rw [HR.out.2]; exact X.out.below (drewB _), tlt_back L.out (Mod.of_below (S := fun _ => False) (drewB _)) X.out.lt id, Mod.of_below (bnext HB.out (drewB _)), (fun g hg => by cases hg), fun g hg => .inl ((hg.back (Mod.of_below (S := fun _ => False) (drewB _)) X.out.lt id).back (Mod.of_below (S := fun _ => False) HB.out) Htw.out id)⟩
  repeat (refine mix0 rfl (fun K hK => ?_); go_simp; refine hK _ ?_; clear hK K)
  refine mix1 rfl (fun K hK => ?_); go_simp
  refine (meant_any W.drew n t.ep t.sz).mono ?_
  rw [Hq.out]
  rintro e w1 ⟨rfl, hb⟩
  have B1 : Hid (Abv W w1) := Lib.hid (bnext (drewB _) hb)
  refine ⟨_, rfl, hK _ _ (cls B1.out) ?_⟩
  clear hK K hb
  repeat (refine mix0 rfl (fun K hK => ?_); go_simp; refine hK _ ?_; clear hK K)
  refine mixEnd ?_
  clear qe qs t0 t1 t2 t3 t4
  have X1 := Lib.hid (X.out.below B1.out)
  have L1 := Lib.hid (tlt_back L.out (Mod.of_below (S := fun _ => False) B1.out) X.out.lt id)
  have N1 := Lib.hid (N0.out.below B1.out)
  have HT1 : Hid (∀ g, Tb w1 tb g → g < w.heap.size) := Lib.hid (fun g hg => HTw.out g (hg.back (Mod.of_below (S := fun _ => False) B1.out) X.out.lt id))
  cases q
  · have HR : Hid (RS = [] ∧ RH = t) := Lib.hid (by rw [← HRS.out, ← HRH.out, tHt, tHa, tOk, Hq.out, Bool.and_false]; exact ⟨rfl, rfl⟩)
    go_wp2
    rw [Exit.noGoto_ret]
    go_ret
    exact ⟨_, rfl, by rw [HR.out.1]; exact RG.nil _ _ _, by rw [HR.out.2]; exact X1.out, L1.out, Mod.of_below (bnext HB.out B1.out), (fun g hg => by cases hg), fun g hg => .inl (hg.back (Mod.of_below (S := fun _ => False) (bnext HB.out B1.out)) Htw.out id)⟩
  have hres : ∃ r : Nat, r < 16 ∧ n.res = (r : Int) := by
    have h1 := Hq.out
    simp only [meantB, Bool.and_eq_true] at h1
    rcases amg_cases n.res t.sz hs with ⟨r, a, b, _⟩ | h2
    · exact ⟨r, a, b⟩
    · rw [h1.2] at h2; cases h2
  obtain ⟨r, hr, hnr⟩ := hres
  obtain ⟨j, hj, rfl⟩ : ∃ j : Nat, j < 8 ∧ z = (j : Int) := by
    have h1 := Hq0.out
    simp only [amgB, Bool.and_eq_true, decide_eq_true_eq] at h1
    exact ⟨z.toNat, by omega, by omega⟩
  have Hnr := Lib.hid hnr
  have HR : Hid (RS = hTt t r j n ∧ RH = hTa t r j n) := Lib.hid (by rw [← HRS.out, ← HRH.out, tHt, tHa, tOk, Hq.out, Hq0.out, hnr]; exact ⟨rfl, rfl⟩)
  have hj8 : thereB (j : Int) = true := by simp [thereB]; omega
  have Hj8 := Lib.hid hj8
  clear hnr hs hj8
  have hr0 : (0 : Int) ≤ (r : Int) := by omega
  have hr1 : (r : Int) < 16 := by omega
  have hj0 : (0 : Int) ≤ (j : Int) := by omega
  have hj1 : (j : Int) < 8 := by omega
  obtain ⟨W2, HW2⟩ : ∃ x, Hid (w1.alloc (.cells #[.slice none 0 0] 47) = x) := ⟨_, Lib.hid rfl⟩
  obtain ⟨al, Hal⟩ : ∃ x, Hid (w1.heap.size = x) := ⟨_, Lib.hid rfl⟩
  have B2 : Hid (Below w1.heap.size w1 W2) := Lib.hid (by rw [← HW2.out]; exact balloc (Below.refl _ _) _)
  have E2 : Hid (W2.cell? ⟨al, 0, none⟩ = some (.slice none 0 0) ∧ W2.frozen? ⟨al, 0, none⟩ = false) := Lib.hid (by rw [← HW2.out, ← Hal.out]; simp [go_sem])
  have X2 := Lib.hid (X1.out.below B2.out)
  have N2 := Lib.hid (N1.out.below B2.out)
  have q2 : ∀ y : In (Abv W2), y.u.cell? ⟨p, 2, none⟩ = some (.int .i64 (r : Int)) := fun y => by have := (N2.out.below y.is).c2; rwa [Hnr.out] at this
  have q3 : ∀ y : In (Abv W2), y.u.cell? ⟨tb, 34 + r * 8 + j, none⟩ = some (.int .i64 (t.last r j)) := fun y => (X2.out.below y.is).ls r j hr hj
  go_wp2_with fail
  rw [HW2.out, Hal.out]
  refine wp_region_mix (by kernel_rfl) (Cls (Abv W2)) [(0, 0), (2, 0), (3, 0), (4, 0), (5, 0), (6, 0), (7, 0), (8, 0), (9, 0), (10, 0), (1, 1), (11, 0), (12, 0)] (by kernel_rfl) (cls (Below.refl _ _).drew) ?_
  repeat (refine mix0 rfl (fun K hK => ?_); go_simp; refine hK _ ?_; clear hK K)
  refine mix1 rfl (fun K hK => ?_); go_simp
  refine (teller_any W2.drew tb al).mono ?_
  rintro e w3 ⟨bt, ba, rfl, d1, d2, hb, hbt, hba⟩
  have B3 : Hid (Abv W2 w3) := Lib.hid (bnext (drewB _) hb)
  have D3 : Hid (w3.cell? ⟨bt, 0, none⟩ = some (.pointer (some ⟨tb, 0, none⟩)) ∧ w3.cell? ⟨ba, 0, none⟩ = some (.pointer (some ⟨al, 0, none⟩)) ∧ W2.heap.size ≤ bt ∧ W2.heap.size ≤ ba) := Lib.hid ⟨d1, d2, Nat.le_trans (drewB W2).size hbt, Nat.le_trans (drewB W2).size hba⟩
  refine ⟨_, rfl, hK _ _ (cls B3.out) ?_⟩
  clear hK K hb d1 d2 hbt hba
  repeat (refine mix0 rfl (fun K hK => ?_); go_simp; refine hK _ ?_; clear hK K)
  refine mixEnd ?_
  clear q2 q3
  have X3 := Lib.hid (X2.out.below B3.out)
  have B13 : Hid (Below w1.heap.size w1 w3) := Lib.hid (bnext B2.out B3.out)
  have L3 := Lib.hid (tlt_back L1.out (Mod.of_below (S := fun _ => False) B13.out) X1.out.lt id)
  have N3 := Lib.hid (N2.out.below B3.out)
  have hsz1 : w.heap.size < w1.heap.size := by have := N1.out.lt; have := Hp.out; omega
  have hal1 : al < W2.heap.size := lt_of_cell E2.out.1
  have HA3 : Hid (∀ g, Tb w3 tb g → g ≠ al) := Lib.hid (fun g hg => by have := HT1.out g (hg.back (Mod.of_below (S := fun _ => False) B13.out) X1.out.lt id); have := Hal.out; omega)
  have htal : al ≠ tb := by have := Htw.out; have := Hal.out; omega
  have htbt : bt ≠ tb := by have := Htw.out; have := hsz1; have := B2.out.size; have := D3.out.2.2.1; omega
  have htba : ba ≠ tb := by have := Htw.out; have := hsz1; have := B2.out.size; have := D3.out.2.2.2; omega
  have G3 : Hid (Ga w3 tb bt ba al t.ep r (t.last r) (.slice none 0 0) []) := Lib.hid
    ⟨D3.out.1, D3.out.2.1, (B3.out.cell (p := ⟨al, 0, none⟩) hal1).trans E2.out.1, (B3.out.frozen (p := ⟨al, 0, none⟩) hal1).trans E2.out.2, X3.out.c0, fun k hk => X3.out.ls r k hr hk, RG.nil _ _ _, htal, by have := D3.out.2.2.1; omega, by have := D3.out.2.2.2; omega, (fun e => by cases e), (fun e => by cases e), (fun e => by cases e), (fun e => by cases e)⟩
  have M3 : Hid (Mod (· = tb) w w3) := Lib.hid (Mod.of_below (bnext (bnext HB.out B1.out) B13.out))
  have K3 : Hid (∀ g, Tb w3 tb g → Tb w tb g) := Lib.hid (fun g hg => hg.back (Mod.of_below (S := fun _ => False) (bnext (bnext HB.out B1.out) B13.out)) Htw.out id)
  have Hw3 : Hid (w.heap.size ≤ al) := Lib.hid (by have := Hal.out; omega)
  clear htal hal1 hsz1 hr0 hr1 hj0 hj1
  have c0 := N3.out.c0
  have c3 := N3.out.c3
  have c4 := N3.out.c4
  have b3 := G3.out.b3
  have nothing : ∀ (e : RS = [] ∧ RH = t), ∃ T', (Ending.returned (.slice none 0 0) : Ending) = .returned T' ∧ RT w3 T' RS ∧ IsT w3 tb RH ∧ Tlt w3 tb ∧ Mod (· = tb) w w3 ∧ (∀ g, blk T' = some g → w.heap.size ≤ g) ∧ ∀ g, Tb w3 tb g → Tb w tb g ∨ w.heap.size ≤ g := fun e =>
    ⟨_, rfl, by rw [e.1]; exact RG.nil _ _ _, by rw [e.2]; exact X3.out, L3.out, M3.out, (fun g hg => by cases hg), fun g hg => .inl (K3.out g hg)⟩
  have Hno := Lib.hid nothing
  clear nothing
  obtain ⟨last, Hlast⟩ : ∃ q, Hid (t.last r j = q) := ⟨_, Lib.hid rfl⟩
  rw [Hlast.out]
  by_cases k1 : n.kind = 1
  · have b1 := beq_yes k1
    have HRd : Hid (RS = (if n.seq < last ∨ n.mode = 0 then [] else if n.seq = last then tdsM 3 t.ep r (t.last r) (enM (t.h r) (j : Int) n.mode) else wTt t r j n) ∧ RH = (if n.seq < last ∨ n.mode = 0 ∨ n.seq = last then t else wTa t r j n)) := Lib.hid (by rw [HR.out.1, HR.out.2, hTt, hTa, if_pos k1, if_pos k1, Hlast.out]; exact ⟨rfl, rfl⟩)
    clear k1
    by_cases k2 : n.seq < last
    · have HR2 : Hid (RS = [] ∧ RH = t) := Lib.hid (by rw [HRd.out.1, HRd.out.2, if_pos (.inl k2), if_pos (.inl k2)]; exact ⟨rfl, rfl⟩)
      go_wp2_with fail
      go_step3
      go_wp2_with fail
      try rw [Exit.noGoto_ret]
      go_ret
      exact Hno.out HR2.out
    · by_cases k3 : n.mode = 0
      · have b3' := beq_yes k3
        have HR2 : Hid (RS = [] ∧ RH = t) := Lib.hid (by rw [HRd.out.1, HRd.out.2, if_pos (.inr k3), if_pos (.inr (.inl k3))]; exact ⟨rfl, rfl⟩)
        clear k3
        go_wp2_with fail
        go_step3
        go_wp2_with fail
        try rw [Exit.noGoto_ret]
        go_ret
        exact Hno.out HR2.out
      · have b3' := beq_no k3
        by_cases k4 : n.seq = last
        · have b4' := beq_yes k4
          have HR2 : Hid (RS = tdsM 3 t.ep r (t.last r) (enM (t.h r) (j : Int) n.mode) ∧ RH = t) := Lib.hid (by rw [HRd.out.1, HRd.out.2, if_neg (fun e => e.elim k2 k3), if_pos k4, if_pos (.inr (.inr k4))]; exact ⟨rfl, rfl⟩)
          clear k3 k4
          obtain ⟨A, na, ca, qa, ia, aa⟩ := (X3.out.qh r hr).is
          obtain ⟨B, nb, cb, qb, ib, ab⟩ := (X3.out.qw r hr).is
          have IQ : Hid (IsQ w3 (.agg #[.slice A na ca, .slice B nb cb]) (t.h r) (t.ws r)) := Lib.hid ⟨_, _, _, _, _, _, rfl, ia, ib⟩
          have hpal : p ≠ al := by have := Hw3.out; have := N1.out.lt; have := Hal.out; omega
          have htal : tb ≠ al := fun e => G3.out.d1 e.symm
          have np : ¬ (p = al ∨ blk (.slice none 0 0) = some p) := fun e => e.elim hpal (fun e => by cases e)
          have nt : ¬ (tb = al ∨ blk (.slice none 0 0) = some tb) := fun e => e.elim htal (fun e => by cases e)
          have z0 : ∀ y : In (Cal w3 al (.slice none 0 0)), y.u.cell? ⟨tb, 2 + r * 2, none⟩ = some (.slice A na ca) := fun y => (y.is.cell (p := ⟨tb, 2 + r * 2, none⟩) X3.out.lt nt).trans qa
          have z1 : ∀ y : In (Cal w3 al (.slice none 0 0)), y.u.cell? ⟨tb, 2 + r * 2 + 1, none⟩ = some (.slice B nb cb) := fun y => (y.is.cell (p := ⟨tb, 2 + r * 2 + 1, none⟩) X3.out.lt nt).trans qb
          have z2 : ∀ y : In (Cal w3 al (.slice none 0 0)), y.u.cell? ⟨p, 2, none⟩ = some (.int .i64 (r : Int)) := fun y => by have := (N3.out.later y.is np).c2; rwa [Hnr.out] at this
          have z3 : ∀ y : In (Cal w3 al (.slice none 0 0)), y.u.cell? ⟨p, 3, none⟩ = some (.int .i64 n.mode) := fun y => (N3.out.later y.is np).c3
          have r0 : (0 : Int) ≤ (r : Int) := by omega
          have r1 : (r : Int) < 16 := by omega
          clear ia ib aa ab qa qb np nt
          go_wp2_with fail
          go_step3
          go_wp2_with fail
          refine wp_region_mix (by kernel_rfl) (Cls (Cal w3 al (.slice none 0 0))) [(0, 0), (1, 0), (2, 0), (3, 0), (4, 0), (5, 0), (6, 0), (7, 0), (8, 0), (9, 0), (10, 0), (11, 0), (12, 0), (13, 1), (14, 1)] (by kernel_rfl) (cls (Mod.refl _ w3).drew) ?_
          repeat (refine mix0 rfl (fun K hK => ?_); go_simp; refine hK _ ?_; clear hK K)
          refine mix1 rfl (fun K hK => ?_); go_simp
          refine (enough_any w3.drew (.agg #[.slice A na ca, .slice B nb cb]) (t.h r) (t.ws r) (IQ.out.below (drewB _)) (j : Int) n.mode (node_wf Hj8.out) (modeM_wf (X3.out.ok r hr) (j : Int))).mono ?_
          rintro e u5 ⟨T5, rfl, s5, b5, n5⟩
          obtain ⟨A5, m5, c5, rfl, i5⟩ := s5.is
          have B5 : Hid (Below w3.heap.size w3 u5) := Lib.hid (bnext (drewB _) b5)
          have HI5 := Lib.hid i5
          have HN5 : Hid (∀ g, blk (.slice A5 m5 c5) = some g → w3.heap.size ≤ g) := Lib.hid (fun g hg => Nat.le_trans (drewB w3).size (n5 g hg))
          refine ⟨_, rfl, hK _ _ (cls (Mod.of_below B5.out)) ?_⟩
          clear hK K s5 b5 n5 i5 z0 z1 z2 z3
          refine mix1 rfl (fun K hK => ?_); go_simp
          have hm5 : m5 = (enM (t.h r) (j : Int) n.mode).length := HI5.out.len
          have hel : (enM (t.h r) (j : Int) n.mode).length ≤ 1 := by unfold enM; split <;> simp
          have hen : ∀ c ∈ enM (t.h r) (j : Int) n.mode, 0 ≤ c.1 ∧ c.1 < 8 := by
            intro c hc
            unfold enM at hc
            split at hc
            · simp at hc; rw [hc]; exact there_iff Hj8.out
            · cases hc
          refine (gather_any (G3.out.below B5.out) hr 3 A5 m5 c5 (enM (t.h r) (j : Int) n.mode) HI5.out hen (fun g hg => ⟨by have := HN5.out g hg; have := lt_of_cell G3.out.b3; omega, fun e => by cases e⟩) (by rw [List.length_nil]; omega)).mono ?_
          rintro e w6 ⟨rfl, T6, g6, m6, b6⟩
          rw [List.nil_append] at g6
          have M36 : Hid (Mod (fun g => g = al ∨ blk (.slice none 0 0) = some g) w3 w6) := Lib.hid ((Mod.of_below B5.out).trans m6)
          refine ⟨_, rfl, hK _ _ (cls M36.out) ?_⟩
          clear hK K
          refine mixEnd ?_
          have M36a : Hid (Mod (· = al) w3 w6) := Lib.hid (M36.out.mono (fun i _ e => e.elim id (fun e => by cases e)))
          have X6 := Lib.hid (X3.out.later M36a.out htal (fun g hg => HA3.out g hg))
          have L6 := Lib.hid (tlt_back L3.out M36a.out X3.out.lt htal)
          have G6 := Lib.hid g6
          have TT6 : Hid (∀ g, blk T6 = some g → w.heap.size ≤ g) := Lib.hid (fun g hg => by
            rcases b6 with e | ⟨g', e, h'⟩
            · rw [e] at hg; cases hg
            · rw [e] at hg; injection hg with hg; have := M3.out.size; have := B5.out.size; omega)
          have d6 := g6.b3
          clear g6 m6 b6 hm5 hel hen b3 c0 c3 c4
          go_wp2
          try rw [Exit.noGoto_ret]
          go_ret
          exact ⟨T6, rfl, by rw [HR2.out.1]; exact G6.out.row, by rw [HR2.out.2]; exact X6.out, L6.out, M3.out.chain M36a.out (fun i hi e => by have := Hw3.out; omega), TT6.out, fun g hg => .inl (K3.out g (hg.back M36a.out X3.out.lt htal))⟩
        · have b4' := beq_no k4
          have HR2 : Hid (RS = wTt t r j n ∧ RH = wTa t r j n) := Lib.hid (by rw [HRd.out.1, HRd.out.2, if_neg (fun e => e.elim k2 k3), if_neg k4, if_neg (fun e => e.elim k2 (fun e => e.elim k3 k4))]; exact ⟨rfl, rfl⟩)
          clear k3 k4
          have c1 := N3.out.c1
          have c2 := N3.out.c2
          have hokt : OkQ (mwH (t.h r) (t.ws r) (j : Int) n.mode) (mwW (t.h r) (t.ws r) (j : Int) n.mode) := mw_ok (X3.out.ok r hr) (j : Int) n.mode
          have HT := Lib.hid (turn_any X3.out L3.out G3.out hr hj htbt htba HA3.out n Hnr.out 53 (fun _ _ => rfl) (mwH (t.h r) (t.ws r) (j : Int) n.mode) (mwW (t.h r) (t.ws r) (j : Int) n.mode) (mwT (t.h r) (t.ws r) (j : Int) n.mode) (do_want (X3.out.ok r hr) (ok_len (X3.out.ok r hr)).1 (ok_len (X3.out.ok r hr)).2 (j : Int) n.mode) hokt (ok_len hokt).1 (mwT_length (X3.out.ok r hr) (j : Int) n.mode) (mwT_node (X3.out.ok r hr) Hj8.out n.mode))
          clear hokt
          go_wp2_with fail
          go_step3
          go_wp2_with fail
          rw [ntV_def] at HT
          refine HT.out.mono ?_
          rintro e w5 ⟨rfl, T6, x6, l6, g6, m6, tt6, kk6⟩
          have X6 := Lib.hid x6
          have L6 := Lib.hid l6
          have G6 := Lib.hid g6
          have M6 := Lib.hid m6
          have TT6 := Lib.hid tt6
          have KK6 := Lib.hid kk6
          have b6 := g6.b3
          clear x6 l6 g6 m6 tt6 kk6 b3 c0 c1 c2 c3 c4
          go_wp2
          try rw [Exit.noGoto_ret]
          go_ret
          exact ⟨T6, rfl, by rw [HR2.out.1]; exact G6.out.row, by rw [HR2.out.2]; exact X6.out, L6.out, M3.out.chain M6.out (fun i hi e => e.elim id (fun e => by have := Hw3.out; omega)), (fun g hg => Nat.le_trans M3.out.size (TT6.out g hg)), fun g hg => (KK6.out g hg).elim (fun h => .inl (K3.out g h)) (fun h => .inr (Nat.le_trans M3.out.size h))⟩
  · have b1 := beq_no k1
    by_cases k2 : n.kind = 2
    · have b2 := beq_yes k2
      have HRd : Hid (RS = (if n.seq ≤ last then [] else dTt t r j n) ∧ RH = (if n.seq ≤ last then t else dTa t r j n)) := Lib.hid (by rw [HR.out.1, HR.out.2, hTt, hTa, if_neg k1, if_neg k1, if_pos k2, if_pos k2, Hlast.out]; exact ⟨rfl, rfl⟩)
      clear k1 k2
      by_cases k4 : n.seq ≤ last
      · have HR2 : Hid (RS = [] ∧ RH = t) := Lib.hid (by rw [HRd.out.1, HRd.out.2, if_pos k4, if_pos k4]; exact ⟨rfl, rfl⟩)
        go_wp2_with fail
        go_step3
        go_wp2_with fail
        try rw [Exit.noGoto_ret]
        go_ret
        exact Hno.out HR2.out
      · have HR2 : Hid (RS = dTt t r j n ∧ RH = dTa t r j n) := Lib.hid (by rw [HRd.out.1, HRd.out.2, if_neg k4, if_neg k4]; exact ⟨rfl, rfl⟩)
        have c1 := N3.out.c1
        have c2 := N3.out.c2
        have hokt : OkQ (newH .drop (t.h r) (t.ws r) (j : Int) n.mode) (newW .drop (t.h r) (t.ws r) (j : Int) n.mode) := new_ok .drop (X3.out.ok r hr) (j : Int) n.mode
        have HT := Lib.hid (turn_any X3.out L3.out G3.out hr hj htbt htba HA3.out n Hnr.out 54 (fun _ _ => rfl) (newH .drop (t.h r) (t.ws r) (j : Int) n.mode) (newW .drop (t.h r) (t.ws r) (j : Int) n.mode) (newT .drop (t.h r) (t.ws r) (j : Int) n.mode) (do_drop (X3.out.ok r hr) (ok_len (X3.out.ok r hr)).1 (ok_len (X3.out.ok r hr)).2 (j : Int) n.mode) hokt (ok_len hokt).1 (newT_length .drop (X3.out.ok r hr) (j : Int) n.mode) (newT_node .drop (X3.out.ok r hr) Hj8.out n.mode))
        clear hokt
        go_wp2_with fail
        go_step3
        go_wp2_with fail
        rw [ntV_def] at HT
        refine HT.out.mono ?_
        rintro e w5 ⟨rfl, T6, x6, l6, g6, m6, tt6, kk6⟩
        have X6 := Lib.hid x6
        have L6 := Lib.hid l6
        have G6 := Lib.hid g6
        have M6 := Lib.hid m6
        have TT6 := Lib.hid tt6
        have KK6 := Lib.hid kk6
        have b6 := g6.b3
        clear x6 l6 g6 m6 tt6 kk6 b3 c0 c1 c2 c3 c4
        go_wp2
        try rw [Exit.noGoto_ret]
        go_ret
        exact ⟨T6, rfl, by rw [HR2.out.1]; exact G6.out.row, by rw [HR2.out.2]; exact X6.out, L6.out, M3.out.chain M6.out (fun i hi e => e.elim id (fun e => by have := Hw3.out; omega)), (fun g hg => Nat.le_trans M3.out.size (TT6.out g hg)), fun g hg => (KK6.out g hg).elim (fun h => .inl (K3.out g h)) (fun h => .inr (Nat.le_trans M3.out.size h))⟩
    · have b2 := beq_no k2
      have HR2 : Hid (RS = [] ∧ RH = t) := Lib.hid (by rw [HR.out.1, HR.out.2, hTt, hTa, if_neg k1, if_neg k1, if_neg k2, if_neg k2]; exact ⟨rfl, rfl⟩)
      clear k1 k2
      go_wp2_with fail
      go_step3
      go_wp2_with fail
      try rw [Exit.noGoto_ret]
      go_ret
      exact Hno.out HR2.out
end Go.Proofs.Ythpmodohfjjjcaa
