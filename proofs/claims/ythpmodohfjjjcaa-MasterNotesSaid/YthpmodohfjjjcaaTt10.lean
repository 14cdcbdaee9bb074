/- A node's note counts: what follows. -/
import Derived.Test.YthpmodohfjjjcaaTu10
import Derived.Deep.DeepCutAuto
namespace Go.Proofs.Ythpmodohfjjjcaa
open Go.RowKit

theorem Ga.mark {w : World} {tb bt ba al : Nat} {ep : Int} {r : Nat} {last : Nat → Int} {T : Value} {l : List Td} (x : Ga w tb bt ba al ep r last T l) (h1 : bt ≠ tb) (h2 : ba ≠ tb) {j : Nat} (v : Int) :
    Ga (w.setCell ⟨tb, 34 + r * 8 + j, none⟩ (.int .i64 v)) tb bt ba al ep r (fun k => if k = j then v else last k) T l :=
  ⟨set_other (fun e => h1 (by injection e with e; exact e.symm)) x.b1, set_other (fun e => h2 (by injection e with e; exact e.symm)) x.b2, set_other (fun e => x.d1 (by injection e with e; exact e.symm)) x.b3, set_frozen x.f3, set_other (by simp <;> omega) x.c0,
    fun k hk => by
      by_cases e : k = j
      · subst e
        simp only [if_true]
        exact set_same (x.ls k hk)
      · simp only [if_neg e]
        exact set_other (by simp <;> omega) (x.ls k hk),
    x.row.later (S := (· = tb)) ((Mod.refl _ w).set1 _) (fun g hg e => x.e1 (e ▸ hg)), x.d1, x.d2, x.d3, x.e1, x.e2, x.e3, x.e4⟩
theorem Ga.put {w : World} {tb bt ba al : Nat} {ep : Int} {r : Nat} {last : Nat → Int} {T : Value} {l : List Td} (x : Ga w tb bt ba al ep r last T l) (h1 : bt ≠ tb) (h2 : ba ≠ tb) {o : Nat} (ho : 0 < o) (ho2 : o < 34) (v : Value) :
    Ga (w.setCell ⟨tb, o, none⟩ v) tb bt ba al ep r last T l :=
  ⟨set_other (fun e => h1 (by injection e with e; exact e.symm)) x.b1, set_other (fun e => h2 (by injection e with e; exact e.symm)) x.b2, set_other (fun e => x.d1 (by injection e with e; exact e.symm)) x.b3, set_frozen x.f3, set_other (by simp <;> omega) x.c0,
    fun k hk => set_other (by simp <;> omega) (x.ls k hk), x.row.later (S := (· = tb)) ((Mod.refl _ w).set1 _) (fun g hg e => x.e1 (e ▸ hg)), x.d1, x.d2, x.d3, x.e1, x.e2, x.e3, x.e4⟩
theorem tb_setQ {w : World} {b o : Nat} {A : Option Addr} {n c : Nat} {A2 : Option Addr} {n2 c2 : Nat} (s1 : (w.cell? ⟨b, o, none⟩).isSome = true) (s2 : (w.cell? ⟨b, o + 1, none⟩).isSome = true) {g : Nat}
    (hg : Tb ((w.setCell ⟨b, o, none⟩ (.slice A n c)).setCell ⟨b, o + 1, none⟩ (.slice A2 n2 c2)) b g) : Tb w b g ∨ (0 < n ∧ blk (.slice A n c) = some g) ∨ (0 < n2 ∧ blk (.slice A2 n2 c2) = some g) := by
  obtain ⟨o', B, k, d, e, h0, hg⟩ := hg
  obtain ⟨u1, hu1⟩ := Option.isSome_iff_exists.1 s1
  obtain ⟨u2, hu2⟩ := Option.isSome_iff_exists.1 s2
  by_cases e2 : o' = o + 1
  · subst e2
    rw [set_same (set_other (by simp) hu2)] at e
    injection e with e
    injection e with e3 e4 e5
    subst e3 e4 e5
    exact .inr (.inr ⟨h0, hg⟩)
  · by_cases e1 : o' = o
    · subst e1
      rw [set_other (by simp) (set_same hu1)] at e
      injection e with e
      injection e with e3 e4 e5
      subst e3 e4 e5
      exact .inr (.inl ⟨h0, hg⟩)
    · rw [World.cell?_setCell_other _ _ _ _ (fun e3 => by injection e3 with _ e3; exact e2 e3.symm), World.cell?_setCell_other _ _ _ _ (fun e3 => by injection e3 with _ e3; exact e1 e3.symm)] at e
      exact .inl ⟨o', B, k, d, e, h0, hg⟩
theorem tb_mark {w : World} {b o : Nat} {v : Int} (hi : ∃ u, w.cell? ⟨b, o, none⟩ = some (.int .i64 u)) {g : Nat} (hg : Tb (w.setCell ⟨b, o, none⟩ (.int .i64 v)) b g) : Tb w b g := by
  obtain ⟨o', A, n, c, e, h0, hg⟩ := hg
  obtain ⟨u, hu⟩ := hi
  by_cases e2 : o' = o
  · subst e2
    rw [set_same hu] at e
    cases e
  · rw [World.cell?_setCell_other _ _ _ _ (fun e3 => by injection e3 with _ e3; exact e2 e3.symm)] at e
    exact ⟨o', A, n, c, e, h0, hg⟩
/-- A queue in a box, and what was told beside it. -/
structure Qbx (W w : World) (tb al q : Nat) (Ax : Option Addr) (nx cx : Nat) (Ay : Option Addr) (ny cy : Nat) (At : Option Addr) (nt ct : Nat) (h1 ws1 t1 : List Cl) : Prop where
  b : Below W.heap.size W w
  qn : W.heap.size ≤ q
  c0 : w.cell? ⟨q, 0, none⟩ = some (.slice Ax nx cx)
  c1 : w.cell? ⟨q, 1, none⟩ = some (.slice Ay ny cy)
  i1 : IsC w Ax nx h1
  i2 : IsC w Ay ny ws1
  i3 : IsC w At nt t1
  a1 : ∀ g, 0 < nx → blk (.slice Ax nx cx) = some g → g ≠ tb ∧ g ≠ al ∧ (Tb W tb g ∨ W.heap.size ≤ g)
  a2 : ∀ g, 0 < ny → blk (.slice Ay ny cy) = some g → g ≠ tb ∧ g ≠ al ∧ (Tb W tb g ∨ W.heap.size ≤ g)
  a3 : ∀ g, blk (.slice At nt ct) = some g → W.heap.size ≤ g
theorem loc_of {A : Option Addr} {na ca : Nat} {B : Option Addr} {nb cb : Nat} {Ax : Option Addr} {nx cx : Nat} {Ay : Option Addr} {ny cy : Nat} {At : Option Addr} {nt ct : Nat} {tb al N M : Nat} {Q : Nat → Prop}
    (h : ((.agg #[.slice Ax nx cx, .slice Ay ny cy] : Value) = .agg #[.slice A na ca, .slice B nb cb] ∧ (.slice At nt ct : Value) = .slice none 0 0) ∨ NewQ N (.agg #[.slice Ax nx cx, .slice Ay ny cy]) (.slice At nt ct))
    (ha : ∀ g, 0 < na → blk (.slice A na ca) = some g → g ≠ tb ∧ g ≠ al ∧ (Q g ∨ M ≤ g)) (hb : ∀ g, 0 < nb → blk (.slice B nb cb) = some g → g ≠ tb ∧ g ≠ al ∧ (Q g ∨ M ≤ g)) (h1 : tb < N) (h2 : al < N) (h3 : M ≤ N) :
    (∀ g, 0 < nx → blk (.slice Ax nx cx) = some g → g ≠ tb ∧ g ≠ al ∧ (Q g ∨ M ≤ g)) ∧ (∀ g, 0 < ny → blk (.slice Ay ny cy) = some g → g ≠ tb ∧ g ≠ al ∧ (Q g ∨ M ≤ g)) ∧ ∀ g, blk (.slice At nt ct) = some g → M ≤ g := by
  rcases h with ⟨e, e2⟩ | h
  · simp only [Value.agg.injEq, Array.mk.injEq, List.cons.injEq, Value.slice.injEq, and_true] at e e2
    obtain ⟨⟨rfl, rfl, rfl⟩, rfl, rfl, rfl⟩ := e
    obtain ⟨rfl, rfl, rfl⟩ := e2
    exact ⟨ha, hb, fun g hg => by cases hg⟩
  · obtain ⟨A', n', c', A2', n2', c2', e, i1, i2, i3⟩ := h.is
    simp only [Value.agg.injEq, Array.mk.injEq, List.cons.injEq, Value.slice.injEq, and_true] at e
    obtain ⟨⟨rfl, rfl, rfl⟩, rfl, rfl, rfl⟩ := e
    exact ⟨fun g _ hg => by have := i1 g hg; exact ⟨by omega, by omega, .inr (by omega)⟩, fun g _ hg => by have := i2 g hg; exact ⟨by omega, by omega, .inr (by omega)⟩, fun g hg => by have := i3 g hg; omega⟩
/-- What turned behind, as far as it was there. -/
theorem Mod.chain {S T : Nat → Prop} {a b c : World} (h : Mod S a b) (k : Mod T b c) (ht : ∀ i, i < a.heap.size → T i → S i) : Mod S a c :=
  ⟨k.os.trans h.os, k.tape.trans h.tape, k.output.trans h.output, Nat.le_trans h.size k.size, fun i hi hs => (k.block i (Nat.lt_of_lt_of_le hi h.size) (fun e => hs (ht i hi e))).trans (h.block i hi hs)⟩
theorem calls_node {h ws : List Cl} (ok : OkQ h ws) : ∀ c ∈ callsM h ws, 0 ≤ c.1 ∧ c.1 < 8 := by
  intro c hc
  cases ws with
  | nil => simp [callsM] at hc
  | cons x ws =>
    simp only [callsM, cM, List.mem_map, List.mem_filter] at hc
    obtain ⟨d, ⟨hd, _⟩, rfl⟩ := hc
    have := ok.has d hd
    exact ⟨this.1, this.2.1⟩
theorem calls_length (h ws : List Cl) : (callsM h ws).length ≤ h.length := by
  cases ws with
  | nil => simp [callsM]
  | cons x ws => exact cM_length h x
theorem IsC.len {w : World} {A : Option Addr} {n : Nat} {l : List Cl} (h : IsC w A n l) : n = l.length := h.length.symm
/-- Worlds in which but a cell's block and a row's nothing has turned. -/
abbrev Cal (W : World) (al : Nat) (T : Value) : World → Prop := fun u => Mod (fun g => g = al ∨ blk T = some g) W u
instance (W : World) (al : Nat) (T : Value) : Nonempty (In (Cal W al T)) := ⟨⟨W, Mod.refl _ _⟩⟩
set_option maxRecDepth 100000 in
set_option maxHeartbeats 4000000 in
theorem turn_any {w : World} {tb bt ba al : Nat} {t : Ta} {r j : Nat} (x : IsT w tb t) (hl : Tlt w tb) (ga : Ga w tb bt ba al t.ep r (t.last r) (.slice none 0 0) []) (hr : r < 16) (hj : j < 8) (hbt : bt ≠ tb) (hba : ba ≠ tb) (hal : ∀ g, Tb w tb g → g ≠ al)
    (n : Nt) (hn : n.res = (r : Int)) (k : FuncId) (hcall : ∀ args u, (callFunc k args).run Try.prog u = .ok (.enter k args) u) (h1 ws1 t1 : List Cl) (hdo : DoOk k (j : Int) n.mode (t.h r) (t.ws r) h1 ws1 t1)
    (ok : OkQ h1 ws1) (hh : h1.length ≤ 50) (ht1 : t1.length ≤ 100) (hnt : ∀ c ∈ t1, 0 ≤ c.1 ∧ c.1 < 8) :
    Calls Try.prog 52 #[.pointer (some ⟨tb, 0, none⟩), .int .i64 (j : Int), ntV n, .func (.func k) #[] #[], .func (.func 70) #[] #[.pointer (some ⟨bt, 0, none⟩), .pointer (some ⟨ba, 0, none⟩)]] w
      fun e w' => e = .returned (.tuple #[]) ∧ ∃ T', IsT w' tb ((t.mark r j n.seq).setQ r h1 ws1) ∧ Tlt w' tb ∧
        Ga w' tb bt ba al t.ep r ((t.mark r j n.seq).last r) T' (tdsM 3 t.ep r ((t.mark r j n.seq).last r) t1 ++ tdsM 4 t.ep r ((t.mark r j n.seq).last r) (callsM h1 ws1)) ∧ Mod (fun g => g = tb ∨ g = al) w w' ∧ (∀ g, blk T' = some g → w.heap.size ≤ g) ∧ ∀ g, Tb w' tb g → Tb w tb g ∨ w.heap.size ≤ g := by
  obtain ⟨W, HW⟩ : ∃ x, Hid (w.alloc (.cells #[.int .i64 n.kind, .int .i64 n.epoch, .int .i64 n.res, .int .i64 n.mode, .int .i64 n.seq] 23) = x) := ⟨_, Lib.hid rfl⟩
  obtain ⟨p, Hp⟩ : ∃ x, Hid (w.heap.size = x) := ⟨_, Lib.hid rfl⟩
  have HB : Hid (Below w.heap.size w W) := Lib.hid (by rw [← HW.out]; exact balloc (Below.refl _ _) _)
  have Htw : Hid (tb < w.heap.size) := Lib.hid x.lt
  have hpt : p ≠ tb := by have := x.lt; have := Hp.out; omega
  have hpal : p ≠ al := by have := lt_of_cell ga.b3; have := Hp.out; omega
  have X := Lib.hid (x.below HB.out)
  have hl2 := tlt_back hl (Mod.of_below (S := fun _ => False) HB.out) x.lt id
  have L := Lib.hid hl2
  have HAL : Hid (∀ g, Tb W tb g → g ≠ al) := Lib.hid (fun g hg => hal g (hg.back (Mod.of_below (S := fun _ => False) HB.out) x.lt id))
  have G := Lib.hid (ga.below HB.out)
  have N0 : Hid (NtAt W p n) := Lib.hid (by rw [← HW.out, ← Hp.out]; exact NtAt.new w n _)
  have hr0 : (0 : Int) ≤ (r : Int) := by omega
  have hr1 : (r : Int) < 16 := by omega
  have hj0 : (0 : Int) ≤ (j : Int) := by omega
  have hj1 : (j : Int) < 8 := by omega
  have Hn := Lib.hid hn
  have Hdo := Lib.hid hdo
  have Ok := Lib.hid ok
  have Hnt := Lib.hid hnt
  have q2 : ∀ y : In (Abv W), y.u.cell? ⟨p, 2, none⟩ = some (.int .i64 (r : Int)) := fun y => by have := (N0.out.below y.is).c2; rwa [Hn.out] at this
  have q4 : ∀ y : In (Abv W), y.u.cell? ⟨p, 4, none⟩ = some (.int .i64 n.seq) := fun y => (N0.out.below y.is).c4
  have s0 := X.out.ls r j hr hj
  have f0 := X.out.free (34 + r * 8 + j) (by omega)
  clear x hl ga hal hdo ok hnt hl2 hn
  rw [ntV_def]
  go_enter Try.func52, Try.ntmps52
  go_wp2_with fail
  rw [HW.out, Hp.out]
  refine wp_region_mix (by kernel_rfl) (Cls (Abv W)) [(0, 0), (1, 0), (2, 0), (3, 0), (4, 0), (5, 0), (6, 0), (7, 0), (8, 0), (9, 0), (10, 2)] (by kernel_rfl) (cls (Below.refl _ W).drew) ?_
  repeat (refine mix0 rfl (fun K hK => ?_); go_simp; refine hK _ ?_; clear hK K)
  refine mix2 rfl (fun K hK => ?_); go_simp; refine hK _ _ ?_; clear hK K
  refine mixEnd ?_
  clear q2 q4 s0 f0
  obtain ⟨W1, HW1⟩ : ∃ x, Hid ((W.setCell ⟨tb, 34 + r * 8 + j, none⟩ (.int .i64 n.seq)).drew = x) := ⟨_, Lib.hid rfl⟩
  rw [HW1.out]
  have M1 : Hid (Mod (· = tb) W W1) := Lib.hid (by rw [← HW1.out]; exact ((Mod.refl _ W).set1 _).drew)
  have hcell : ∃ u, W.cell? ⟨tb, 34 + r * 8 + j, none⟩ = some (.int .i64 u) := ⟨_, X.out.ls r j hr hj⟩
  have X1 : Hid (IsT W1 tb (t.mark r j n.seq)) := Lib.hid (by rw [← HW1.out]; exact (X.out.mark hr hj n.seq).below (drewB _))
  have hm1 : IsT (W.setCell ⟨tb, 34 + r * 8 + j, none⟩ (.int .i64 n.seq)) tb (t.mark r j n.seq) := X.out.mark hr hj n.seq
  have L1 : Hid (Tlt W1 tb) := Lib.hid (by rw [← HW1.out]; exact tlt_back (tlt_mark L.out _ n.seq hcell) (Mod.of_below (S := fun _ => False) (drewB _)) hm1.lt id)
  have A1 : Hid (∀ g, Tb W1 tb g → g ≠ al) := Lib.hid (fun g hg => by
    rw [← HW1.out] at hg
    exact HAL.out g (tb_mark hcell (hg.back (Mod.of_below (S := fun _ => False) (drewB _)) hm1.lt id)))
  have K1 : Hid (∀ g : Nat, Tb W1 tb g → Tb w tb g ∨ w.heap.size ≤ g) := Lib.hid (fun g hg => by
    rw [← HW1.out] at hg
    exact .inl ((tb_mark hcell (hg.back (Mod.of_below (S := fun _ => False) (drewB _)) hm1.lt id)).back (Mod.of_below (S := fun _ => False) HB.out) Htw.out id))
  have hlast : (fun k => if k = j then n.seq else t.last r k) = (t.mark r j n.seq).last r := by
    funext k
    simp [Ta.mark]
  have G1 : Hid (Ga W1 tb bt ba al t.ep r ((t.mark r j n.seq).last r) (.slice none 0 0) []) := Lib.hid (by rw [← HW1.out, ← hlast]; exact (G.out.mark hbt hba n.seq).below (drewB _))
  have N1 : Hid (NtAt W1 p n) := Lib.hid (N0.out.later M1.out hpt)
  clear hm1 hlast hcell HW1
  obtain ⟨A, na, ca, qa, ia, aa⟩ := (X1.out.qh r hr).is
  obtain ⟨B, nb, cb, qb, ib, ab⟩ := (X1.out.qw r hr).is
  have HT0 : (t.mark r j n.seq).h r = t.h r := rfl
  have HT1 : (t.mark r j n.seq).ws r = t.ws r := rfl
  rw [HT0] at ia
  rw [HT1] at ib
  have IA := Lib.hid ia
  have IB := Lib.hid ib
  have QA := Lib.hid qa
  have QB := Lib.hid qb
  have AA : Hid (∀ g, 0 < na → blk (.slice A na ca) = some g → g ≠ tb ∧ g ≠ al ∧ (Tb W1 tb g ∨ W1.heap.size ≤ g)) := Lib.hid (fun g h0 hg => ⟨aa g h0 hg, A1.out g ⟨_, _, _, _, qa, h0, hg⟩, .inl ⟨_, _, _, _, qa, h0, hg⟩⟩)
  have AB : Hid (∀ g, 0 < nb → blk (.slice B nb cb) = some g → g ≠ tb ∧ g ≠ al ∧ (Tb W1 tb g ∨ W1.heap.size ≤ g)) := Lib.hid (fun g h0 hg => ⟨ab g h0 hg, A1.out g ⟨_, _, _, _, qb, h0, hg⟩, .inl ⟨_, _, _, _, qb, h0, hg⟩⟩)
  clear ia ib aa ab qa qb HT0 HT1
  have Htb : Hid (tb < W1.heap.size ∧ al < W1.heap.size) := Lib.hid ⟨X1.out.lt, lt_of_cell G1.out.b3⟩
  have q2 : ∀ y : In (Abv W1), y.u.cell? ⟨p, 2, none⟩ = some (.int .i64 (r : Int)) := fun y => by have := (N1.out.below y.is).c2; rwa [Hn.out] at this
  have q3 : ∀ y : In (Abv W1), y.u.cell? ⟨p, 3, none⟩ = some (.int .i64 n.mode) := fun y => (N1.out.below y.is).c3
  have q5 : ∀ y : In (Abv W1), y.u.cell? ⟨tb, 2 + r * 2, none⟩ = some (.slice A na ca) := fun y => (y.is.cell (p := ⟨tb, 2 + r * 2, none⟩) Htb.out.1).trans QA.out
  have q6 : ∀ y : In (Abv W1), y.u.cell? ⟨tb, 2 + r * 2 + 1, none⟩ = some (.slice B nb cb) := fun y => (y.is.cell (p := ⟨tb, 2 + r * 2 + 1, none⟩) Htb.out.1).trans QB.out
  go_wp2_with fail
  go_cut [10, 11] (fun a b wx => ∃ (q : Nat) (Ax : Option Addr) (nx cx : Nat) (Ay : Option Addr) (ny cy : Nat) (At : Option Addr) (nt ct : Nat), a = .pointer (some ⟨q, 0, none⟩) ∧ b = .slice At nt ct ∧ Hid (Qbx W1 wx tb al q Ax nx cx Ay ny cy At nt ct h1 ws1 t1))
  case first =>
    refine wp_region_mixY (by kernel_rfl) (Cls (Abv W1)) 15 [(0, 0), (1, 0), (2, 0), (3, 0), (4, 0), (5, 0), (6, 0), (7, 0), (8, 0), (9, 0), (10, 0), (11, 1), (12, 0), (13, 0), (14, 0)] [(16, 1), (17, 0)] (by kernel_rfl) (cls (Below.refl _ W1).drew) ?_
    obtain ⟨Y0, HY0⟩ : ∃ x, Hid (W1.drew = x) := ⟨_, Lib.hid rfl⟩
    have BY0 : Hid (Abv W1 Y0) := Lib.hid (by rw [← HY0.out]; exact drewB _)
    rw [HY0.out]
    clear HY0
    repeat (refine mixY0 rfl (fun K hK => ?_); go_simp; refine hK _ ?_; clear hK K)
    clear q2 q3 q5 q6
    refine mixY1 rfl rfl (fun K hK => ?_) (fun K hK => ?_)
    · go_simp
      obtain ⟨q, Hqe⟩ : ∃ q, Hid (Y0.heap.size = q) := ⟨_, Lib.hid rfl⟩
      obtain ⟨Y1, HY1⟩ : ∃ x, Hid (Y0.alloc (.cells #[.slice none 0 0, .slice none 0 0] 57) = x) := ⟨_, Lib.hid rfl⟩
      have BY1 : Hid (Abv W1 Y1) := Lib.hid (bnext BY0.out (by rw [← HY1.out]; exact balloc (Below.refl _ _) _))
      have Hq : Hid (W1.heap.size ≤ q) := Lib.hid (by rw [← Hqe.out]; exact BY0.out.size)
      have Z0 : Hid (Y1.cell? ⟨q, 0, none⟩ = some (.slice none 0 0)) := Lib.hid (by rw [← HY1.out, ← Hqe.out]; simp [go_sem])
      have Z1 : Hid (Y1.cell? ⟨q, 1, none⟩ = some (.slice none 0 0)) := Lib.hid (by rw [← HY1.out, ← Hqe.out]; simp [go_sem])
      have E0 : Hid (Y1.frozen? ⟨q, 0, none⟩ = false) := Lib.hid (by rw [← HY1.out, ← Hqe.out]; simp [go_sem])
      have E1 : Hid (Y1.frozen? ⟨q, 1, none⟩ = false) := Lib.hid (by rw [← HY1.out, ← Hqe.out]; simp [go_sem])
      rw [HY1.out, Hqe.out]
      refine hK _ _ (cls BY1.out) ?_
      clear hK K
      refine mix1 rfl (fun K hK => ?_)
      go_simp
      refine (Hdo.out Y1 (.agg #[.slice A na ca, .slice B nb cb]) ⟨_, _, _, _, _, _, rfl, IA.out.below BY1.out, IB.out.below BY1.out⟩).mono ?_
      rintro e u2 ⟨v', T, rfl, hq, hs, hb2, hloc⟩
      obtain ⟨Ax, nx, cx, Ay, ny, cy, rfl, j1, j2⟩ := hq.is
      obtain ⟨At, nt, ct, rfl, j3⟩ := hs.is
      have hlc := loc_of (M := W1.heap.size) hloc AA.out AB.out (Nat.lt_of_lt_of_le Htb.out.1 BY1.out.size) (Nat.lt_of_lt_of_le Htb.out.2 BY1.out.size) BY1.out.size
      have Loc := Lib.hid hlc
      have B2 : Hid (Abv W1 u2) := Lib.hid (bnext BY1.out hb2)
      have J1 := Lib.hid j1
      have J2 := Lib.hid j2
      have J3 := Lib.hid j3
      have Z02 := Lib.hid ((hb2.cell (p := ⟨q, 0, none⟩) (lt_of_cell Z0.out)).trans Z0.out)
      have Z12 := Lib.hid ((hb2.cell (p := ⟨q, 1, none⟩) (lt_of_cell Z0.out)).trans Z1.out)
      have E02 := Lib.hid ((hb2.frozen (p := ⟨q, 0, none⟩) (lt_of_cell Z0.out)).trans E0.out)
      have E12 := Lib.hid ((hb2.frozen (p := ⟨q, 1, none⟩) (lt_of_cell Z0.out)).trans E1.out)
      refine ⟨_, rfl, hK _ _ (cls B2.out) ?_⟩
      clear hK K hq hs hb2 hloc hlc j1 j2 j3
      repeat (refine mix0 rfl (fun K hK => ?_); go_simp; refine hK _ ?_; clear hK K)
      have k1 : (u2.setCell ⟨q, 0, none⟩ (.slice Ax nx cx)).cell? ⟨q, 1, none⟩ = some (.slice none 0 0) := set_other (by simp) Z12.out
      have e0 : ((u2.setCell ⟨q, 0, none⟩ (.slice Ax nx cx)).setCell ⟨q, 1, none⟩ (.slice Ay ny cy)).cell? ⟨q, 0, none⟩ = some (.slice Ax nx cx) := set_other (by simp) (set_same Z02.out)
      have e1 : ((u2.setCell ⟨q, 0, none⟩ (.slice Ax nx cx)).setCell ⟨q, 1, none⟩ (.slice Ay ny cy)).cell? ⟨q, 1, none⟩ = some (.slice Ay ny cy) := set_same k1
      have HQ : Hid (Qbx W1 ((u2.setCell ⟨q, 0, none⟩ (.slice Ax nx cx)).setCell ⟨q, 1, none⟩ (.slice Ay ny cy)) tb al q Ax nx cx Ay ny cy At nt ct h1 ws1 t1) := Lib.hid
        ⟨bmod (bmod B2.out ((Mod.refl (· = q) u2).set1 _) Hq.out) ((Mod.refl (· = q) _).set1 _) Hq.out, Hq.out, e0, e1, (J1.out.set_slice Z02.out _).set_slice k1 _, (J2.out.set_slice Z02.out _).set_slice k1 _, (J3.out.set_slice Z02.out _).set_slice k1 _, Loc.out.1, Loc.out.2.1, Loc.out.2.2⟩
      clear k1 e0 e1
      have z0 := Z02.out
      have z1 := Z12.out
      have g0 := E02.out
      have g1 := E12.out
      refine mix1 rfl (fun K hK => ?_); go_simp
      refine hK _ _ (cls HQ.out.b) ?_
      clear hK K z0 z1 g0 g1
      repeat (refine mix0 rfl (fun K hK => ?_); go_simp; refine hK _ ?_; clear hK K)
      refine mixEnd ?_
      go_wp2_with fail
      go_meet
      case rel => exact ⟨q, Ax, nx, cx, Ay, ny, cy, At, nt, ct, rfl, rfl, HQ⟩
    · go_simp
      refine (Hdo.out Y0 (.agg #[.slice A na ca, .slice B nb cb]) ⟨_, _, _, _, _, _, rfl, IA.out.below BY0.out, IB.out.below BY0.out⟩).mono ?_
      rintro e u2 ⟨v', T, rfl, hq, hs, hb2, hloc⟩
      obtain ⟨Ax, nx, cx, Ay, ny, cy, rfl, j1, j2⟩ := hq.is
      obtain ⟨At, nt, ct, rfl, j3⟩ := hs.is
      have hlc := loc_of (M := W1.heap.size) hloc AA.out AB.out (Nat.lt_of_lt_of_le Htb.out.1 BY0.out.size) (Nat.lt_of_lt_of_le Htb.out.2 BY0.out.size) BY0.out.size
      have Loc := Lib.hid hlc
      have B2 : Hid (Abv W1 u2) := Lib.hid (bnext BY0.out hb2)
      have J1 := Lib.hid j1
      have J2 := Lib.hid j2
      have J3 := Lib.hid j3
      refine ⟨_, rfl, hK _ _ (cls B2.out) ?_⟩
      clear hK K hq hs hb2 hloc hlc j1 j2 j3
      repeat (refine mixY0 rfl (fun K hK => ?_); go_simp; refine hK _ ?_; clear hK K)
      refine mixYe rfl (fun K hK => ?_)
      go_simp
      obtain ⟨q, Hqe⟩ : ∃ q, Hid (u2.heap.size = q) := ⟨_, Lib.hid rfl⟩
      obtain ⟨Y1, HY1⟩ : ∃ x, Hid (u2.alloc (.cells #[.slice none 0 0, .slice none 0 0] 57) = x) := ⟨_, Lib.hid rfl⟩
      have hbl : Below u2.heap.size u2 Y1 := by rw [← HY1.out]; exact balloc (Below.refl _ _) _
      have BY1 : Hid (Abv W1 Y1) := Lib.hid (bnext B2.out hbl)
      have Hq : Hid (W1.heap.size ≤ q) := Lib.hid (by rw [← Hqe.out]; exact B2.out.size)
      have Z0 : Hid (Y1.cell? ⟨q, 0, none⟩ = some (.slice none 0 0)) := Lib.hid (by rw [← HY1.out, ← Hqe.out]; simp [go_sem])
      have Z1 : Hid (Y1.cell? ⟨q, 1, none⟩ = some (.slice none 0 0)) := Lib.hid (by rw [← HY1.out, ← Hqe.out]; simp [go_sem])
      have E0 : Hid (Y1.frozen? ⟨q, 0, none⟩ = false) := Lib.hid (by rw [← HY1.out, ← Hqe.out]; simp [go_sem])
      have E1 : Hid (Y1.frozen? ⟨q, 1, none⟩ = false) := Lib.hid (by rw [← HY1.out, ← Hqe.out]; simp [go_sem])
      have J12 := Lib.hid (J1.out.below hbl)
      have J22 := Lib.hid (J2.out.below hbl)
      have J32 := Lib.hid (J3.out.below hbl)
      rw [HY1.out, Hqe.out]
      refine hK _ _ (cls BY1.out) ?_
      clear hK K hbl
      have k1 : (Y1.setCell ⟨q, 0, none⟩ (.slice Ax nx cx)).cell? ⟨q, 1, none⟩ = some (.slice none 0 0) := set_other (by simp) Z1.out
      have e0 : ((Y1.setCell ⟨q, 0, none⟩ (.slice Ax nx cx)).setCell ⟨q, 1, none⟩ (.slice Ay ny cy)).cell? ⟨q, 0, none⟩ = some (.slice Ax nx cx) := set_other (by simp) (set_same Z0.out)
      have e1 : ((Y1.setCell ⟨q, 0, none⟩ (.slice Ax nx cx)).setCell ⟨q, 1, none⟩ (.slice Ay ny cy)).cell? ⟨q, 1, none⟩ = some (.slice Ay ny cy) := set_same k1
      have HQ : Hid (Qbx W1 ((Y1.setCell ⟨q, 0, none⟩ (.slice Ax nx cx)).setCell ⟨q, 1, none⟩ (.slice Ay ny cy)) tb al q Ax nx cx Ay ny cy At nt ct h1 ws1 t1) := Lib.hid
        ⟨bmod (bmod BY1.out ((Mod.refl (· = q) Y1).set1 _) Hq.out) ((Mod.refl (· = q) _).set1 _) Hq.out, Hq.out, e0, e1, (J12.out.set_slice Z0.out _).set_slice k1 _, (J22.out.set_slice Z0.out _).set_slice k1 _, (J32.out.set_slice Z0.out _).set_slice k1 _, Loc.out.1, Loc.out.2.1, Loc.out.2.2⟩
      clear k1 e0 e1
      have z0 := Z0.out
      have z1 := Z1.out
      have g0 := E0.out
      have g1 := E1.out
      refine mix1 rfl (fun K hK => ?_); go_simp
      refine hK _ _ (cls HQ.out.b) ?_
      clear hK K z0 z1 g0 g1
      repeat (refine mix0 rfl (fun K hK => ?_); go_simp; refine hK _ ?_; clear hK K)
      refine mixEnd ?_
      go_wp2_with fail
      go_meet
      case rel => exact ⟨q, Ax, nx, cx, Ay, ny, cy, At, nt, ct, rfl, rfl, HQ⟩
  case rest =>
    obtain ⟨q, Ax, nx, cx, Ay, ny, cy, At, nt, ct, rfl, rfl, HQ⟩ := hcut
    clear q2 q3 q5 q6
    have XC := Lib.hid (X1.out.below HQ.out.b)
    have LC := Lib.hid (tlt_back L1.out (Mod.of_below (S := fun _ => False) HQ.out.b) X1.out.lt id)
    have AC : Hid (∀ g, Tb wc tb g → g ≠ al) := Lib.hid (fun g hg => A1.out g (hg.back (Mod.of_below (S := fun _ => False) HQ.out.b) X1.out.lt id))
    have GC := Lib.hid (G1.out.below HQ.out.b)
    have NC := Lib.hid (N1.out.below HQ.out.b)
    have hqtb : q ≠ tb := by have := HQ.out.qn; have := Htb.out.1; omega
    have hqal : q ≠ al := by have := HQ.out.qn; have := Htb.out.2; omega
    have y0 : ∀ y : In (Abv wc), y.u.cell? ⟨q, 0, none⟩ = some (.slice Ax nx cx) := fun y => (y.is.cell (p := ⟨q, 0, none⟩) (lt_of_cell HQ.out.c0)).trans HQ.out.c0
    have y1 : ∀ y : In (Abv wc), y.u.cell? ⟨q, 1, none⟩ = some (.slice Ay ny cy) := fun y => (y.is.cell (p := ⟨q, 1, none⟩) (lt_of_cell HQ.out.c0)).trans HQ.out.c1
    have y2 : ∀ y : In (Abv wc), y.u.cell? ⟨p, 2, none⟩ = some (.int .i64 (r : Int)) := fun y => by have := (NC.out.below y.is).c2; rwa [Hn.out] at this
    have s0 := (HQ.out.b.cell (p := ⟨tb, 2 + r * 2, none⟩) Htb.out.1).trans QA.out
    have s1 := (HQ.out.b.cell (p := ⟨tb, 2 + r * 2 + 1, none⟩) Htb.out.1).trans QB.out
    have f0 := XC.out.free (2 + r * 2) (by omega)
    have f1 := XC.out.free (2 + r * 2 + 1) (by omega)
    have HS0 := Lib.hid (And.intro s0 s1)
    go_wp2_with fail
    refine wp_region_mix (by kernel_rfl) (Cls (Abv wc)) [(0, 0), (1, 0), (2, 0), (3, 0), (4, 0), (5, 0), (6, 0), (7, 2)] (by kernel_rfl) (cls (Below.refl _ wc).drew) ?_
    repeat (refine mix0 rfl (fun K hK => ?_); go_simp; refine hK _ ?_; clear hK K)
    refine mix2 rfl (fun K hK => ?_); go_simp; refine hK _ _ ?_; clear hK K
    refine mixEnd ?_
    clear y0 y1 y2 s0 s1 f0 f1
    obtain ⟨W3, HW3⟩ : ∃ x, Hid (((wc.setCell ⟨tb, 2 + r * 2, none⟩ (.slice Ax nx cx)).setCell ⟨tb, 2 + r * 2 + 1, none⟩ (.slice Ay ny cy)).drew = x) := ⟨_, Lib.hid rfl⟩
    rw [HW3.out]
    have M3 : Hid (Mod (· = tb) wc W3) := Lib.hid (by rw [← HW3.out]; exact (((Mod.refl _ wc).set1 _).set1 _).drew)
    have hx3 : IsT ((wc.setCell ⟨tb, 2 + r * 2, none⟩ (.slice Ax nx cx)).setCell ⟨tb, 2 + r * 2 + 1, none⟩ (.slice Ay ny cy)) tb ((t.mark r j n.seq).setQ r h1 ws1) := XC.out.setQ hr HQ.out.i1 HQ.out.i2 (fun g h0 hg => (HQ.out.a1 g h0 hg).1) (fun g h0 hg => (HQ.out.a2 g h0 hg).1) Ok.out
    have X3 : Hid (IsT W3 tb ((t.mark r j n.seq).setQ r h1 ws1)) := Lib.hid (by rw [← HW3.out]; exact hx3.below (drewB _))
    have L3 : Hid (Tlt W3 tb) := Lib.hid (by
      rw [← HW3.out]
      exact tlt_back (tlt_setQ LC.out HQ.out.i1 HQ.out.i2 (fun g h0 hg => (HQ.out.a1 g h0 hg).1) (fun g h0 hg => (HQ.out.a2 g h0 hg).1) (by rw [HS0.out.1]; rfl) (by rw [HS0.out.2]; rfl)) (Mod.of_below (S := fun _ => False) (drewB _)) hx3.lt id)
    have A3 : Hid (∀ g, Tb W3 tb g → g ≠ al) := Lib.hid (fun g hg => by
      rw [← HW3.out] at hg
      rcases tb_setQ (by rw [HS0.out.1]; rfl) (by rw [HS0.out.2]; rfl) (hg.back (Mod.of_below (S := fun _ => False) (drewB _)) hx3.lt id) with h | ⟨h0, h⟩ | ⟨h0, h⟩
      · exact AC.out g h
      · exact (HQ.out.a1 g h0 h).2.1
      · exact (HQ.out.a2 g h0 h).2.1)
    have K3 : Hid (∀ g, Tb W3 tb g → Tb w tb g ∨ w.heap.size ≤ g) := Lib.hid (fun g hg => by
      have k1 : ∀ g, Tb W1 tb g ∨ W1.heap.size ≤ g → Tb w tb g ∨ w.heap.size ≤ g := fun g h => h.elim (K1.out g) (fun h => .inr (Nat.le_trans HB.out.size (Nat.le_trans M1.out.size h)))
      rw [← HW3.out] at hg
      rcases tb_setQ (by rw [HS0.out.1]; rfl) (by rw [HS0.out.2]; rfl) (hg.back (Mod.of_below (S := fun _ => False) (drewB _)) hx3.lt id) with h | ⟨h0, h⟩ | ⟨h0, h⟩
      · exact K1.out g (h.back (Mod.of_below (S := fun _ => False) HQ.out.b) X1.out.lt id)
      · exact k1 g (HQ.out.a1 g h0 h).2.2
      · exact k1 g (HQ.out.a2 g h0 h).2.2)
    have G3 : Hid (Ga W3 tb bt ba al t.ep r ((t.mark r j n.seq).last r) (.slice none 0 0) []) := Lib.hid (by rw [← HW3.out]; exact (((GC.out.put hbt hba (by omega) (by omega) _).put hbt hba (by omega) (by omega) _)).below (drewB _))
    have N3 := Lib.hid (NC.out.later M3.out hpt)
    have C3 := Lib.hid ((M3.out.cell (p := ⟨q, 0, none⟩) (lt_of_cell HQ.out.c0) hqtb).trans HQ.out.c0)
    have D3 := Lib.hid ((M3.out.cell (p := ⟨q, 1, none⟩) (lt_of_cell HQ.out.c0) hqtb).trans HQ.out.c1)
    have I1 := Lib.hid (HQ.out.i1.later' (c := cx) M3.out (fun g h0 hg e => (HQ.out.a1 g h0 hg).1 e))
    have I2 := Lib.hid (HQ.out.i2.later' (c := cy) M3.out (fun g h0 hg e => (HQ.out.a2 g h0 hg).1 e))
    have I3 := Lib.hid (HQ.out.i3.later' (c := ct) M3.out (fun g h0 hg e => by have := HQ.out.a3 g hg; have := Htb.out.1; omega))
    clear hx3
    have n2 := N3.out.c2
    rw [Hn.out] at n2
    have hlt1 := Lib.hid I3.out.len
    have hl5 : ([] : List Td).length + nt ≤ 50000 := by rw [hlt1.out]; exact Nat.le_trans (by rw [List.length_nil, Nat.zero_add]; exact ht1) (by decide)
    have ha5 : ∀ g, blk (.slice At nt ct) = some g → g ≠ al ∧ blk (.slice none 0 0) ≠ some g := fun g hg => ⟨fun e => by have := HQ.out.a3 g hg; have := Htb.out.2; omega, fun e => by cases e⟩
    have hg5 := Lib.hid <| gather_any G3.out hr 3 At nt ct t1 I3.out Hnt.out ha5 hl5
    clear hl5 ha5
    go_wp2_with fail
    refine hg5.out.mono ?_
    rintro e w4 ⟨rfl, T4, g4, m4, b4⟩
    rw [List.nil_append] at g4
    have G4 := Lib.hid g4
    have M4 : Hid (Mod (· = al) W3 w4) := Lib.hid (m4.mono (fun g _ h => h.elim id (fun e => by cases e)))
    have HT4 : Hid (∀ g, blk T4 = some g → W3.heap.size ≤ g) := Lib.hid (fun g hg => by
      rcases b4 with e | ⟨g', e, h'⟩
      · rw [e] at hg; cases hg
      · rw [e] at hg; injection hg with hg; omega)
    clear g4 m4 b4 n2
    have htal : tb ≠ al := G4.out.d1.symm
    have X4 := Lib.hid (X3.out.later M4.out htal (fun g hg => A3.out g hg))
    have L4 := Lib.hid (tlt_back L3.out M4.out X3.out.lt htal)
    have S4 : Hid (∀ g, Tb w4 tb g → g < W3.heap.size ∧ g ≠ al) := Lib.hid (fun g hg => by
      have h := hg.back M4.out X3.out.lt htal
      exact ⟨(L3.out g h).1, A3.out g h⟩)
    have N4 := Lib.hid (N3.out.later M4.out hpal)
    have C4 := Lib.hid ((M4.out.cell (p := ⟨q, 0, none⟩) (lt_of_cell C3.out) hqal).trans C3.out)
    have D4 := Lib.hid ((M4.out.cell (p := ⟨q, 1, none⟩) (lt_of_cell C3.out) hqal).trans D3.out)
    have I14 := Lib.hid (I1.out.later' (c := cx) M4.out (fun g h0 hg e => (HQ.out.a1 g h0 hg).2.1 e))
    have I24 := Lib.hid (I2.out.later' (c := cy) M4.out (fun g h0 hg e => (HQ.out.a2 g h0 hg).2.1 e))
    have hTp : ¬ (p = al ∨ blk T4 = some p) := fun e => e.elim hpal (fun e => by have := HT4.out p e; have := N3.out.lt; omega)
    have hTq : ¬ (q = al ∨ blk T4 = some q) := fun e => e.elim hqal (fun e => by have := HT4.out q e; have := lt_of_cell C3.out; omega)
    have y0 : ∀ y : In (Cal w4 al T4), y.u.cell? ⟨q, 0, none⟩ = some (.slice Ax nx cx) := fun y => (y.is.cell (p := ⟨q, 0, none⟩) (lt_of_cell C4.out) hTq).trans C4.out
    have y1 : ∀ y : In (Cal w4 al T4), y.u.cell? ⟨q, 1, none⟩ = some (.slice Ay ny cy) := fun y => (y.is.cell (p := ⟨q, 1, none⟩) (lt_of_cell C4.out) hTq).trans D4.out
    have y2 : ∀ y : In (Cal w4 al T4), y.u.cell? ⟨p, 2, none⟩ = some (.int .i64 (r : Int)) := fun y => by have := (N4.out.later y.is hTp).c2; rwa [Hn.out] at this
    go_wp2_with fail
    refine wp_region_mix (by kernel_rfl) (Cls (Cal w4 al T4)) [(0, 0), (1, 0), (2, 0), (3, 0), (4, 1), (5, 1)] (by kernel_rfl) (cls (Mod.refl _ w4).drew) ?_
    repeat (refine mix0 rfl (fun K hK => ?_); go_simp; refine hK _ ?_; clear hK K)
    refine mix1 rfl (fun K hK => ?_); go_simp
    refine (Calls_nw w4.drew (.agg #[.slice Ax nx cx, .slice Ay ny cy]) h1 ws1 ⟨_, _, _, _, _, _, rfl, I14.out.below (drewB _), I24.out.below (drewB _)⟩ hh).mono ?_
    rintro e u5 ⟨T5, rfl, s5, b5, n5⟩
    obtain ⟨A5, m5, c5, rfl, i5⟩ := s5.is
    have B5 : Hid (Below w4.heap.size w4 u5) := Lib.hid (bnext (drewB _) b5)
    have HI5 := Lib.hid i5
    have HN5 : Hid (∀ g, blk (.slice A5 m5 c5) = some g → w4.heap.size ≤ g) := Lib.hid (fun g hg => Nat.le_trans (drewB w4).size (n5 g hg))
    refine ⟨_, rfl, hK _ _ (cls (Mod.of_below B5.out)) ?_⟩
    clear hK K s5 b5 n5 i5
    clear y0 y1 y2 hTp hTq
    refine mix1 rfl (fun K hK => ?_); go_simp
    have hm5 : m5 = (callsM h1 ws1).length := HI5.out.len
    have hcl := calls_length h1 ws1
    refine (gather_any (G4.out.below B5.out) hr 4 A5 m5 c5 (callsM h1 ws1) HI5.out (calls_node Ok.out) (fun g hg => ⟨by have := HN5.out g hg; have := lt_of_cell G4.out.b3; omega, fun e => by have := G4.out.row.lt e; have := HN5.out g hg; omega⟩) (by rw [tdsM, List.length_map]; omega)).mono ?_
    rintro e w6 ⟨rfl, T6, g6, m6, b6⟩
    have M46 : Hid (Mod (fun g => g = al ∨ blk T4 = some g) w4 w6) := Lib.hid ((Mod.of_below B5.out).trans m6)
    refine ⟨_, rfl, hK _ _ (cls M46.out) ?_⟩
    clear hK K
    refine mixEnd ?_
    have X6 : Hid (IsT w6 tb ((t.mark r j n.seq).setQ r h1 ws1)) := Lib.hid (X4.out.later M46.out (fun e => e.elim htal (fun e => by have := HT4.out tb e; have := X3.out.lt; omega)) (fun g hg e => e.elim (S4.out g hg).2 (fun e => by have := HT4.out g e; have := (S4.out g hg).1; omega)))
    have L6 : Hid (Tlt w6 tb) := Lib.hid (tlt_back L4.out M46.out X4.out.lt (fun e => e.elim htal (fun e => by have := HT4.out tb e; have := X3.out.lt; omega)))
    have K6 : Hid (∀ g, Tb w6 tb g → Tb w tb g ∨ w.heap.size ≤ g) := Lib.hid (fun g hg => K3.out g ((hg.back M46.out X4.out.lt (fun e => e.elim htal (fun e => by have := HT4.out tb e; have := X3.out.lt; omega))).back M4.out X3.out.lt htal))
    have G6 := Lib.hid g6
    have MT : Hid (Mod (fun g => g = tb ∨ g = al) w w6) := Lib.hid (by
      have m1 : Mod (fun g => g = tb ∨ g = al) w W3 := ((((Mod.of_below HB.out).chain M1.out (fun i _ e => .inl e)).trans (Mod.of_below HQ.out.b)).trans (M3.out.mono (fun i _ e => .inl e)))
      exact (m1.trans (M4.out.mono (fun i _ e => .inr e))).chain M46.out (fun i hi e => e.elim .inr (fun e => by have := HT4.out i e; have := m1.size; omega)))
    have TT : Hid (∀ g, blk T6 = some g → w.heap.size ≤ g) := Lib.hid (fun g hg => by
      have h3 : w.heap.size ≤ W3.heap.size := Nat.le_trans HB.out.size (Nat.le_trans M1.out.size (Nat.le_trans HQ.out.b.size M3.out.size))
      rcases b6 with e | ⟨g', e, h'⟩
      · have := HT4.out g (e ▸ hg); omega
      · rw [e] at hg; injection hg with hg; have := M4.out.size; have := B5.out.size; omega)
    clear g6 m6 b6
    go_wp2
    go_end0
    exact ⟨rfl, T6, X6.out, L6.out, G6.out, MT.out, TT.out, K6.out⟩
end Go.Proofs.Ythpmodohfjjjcaa
