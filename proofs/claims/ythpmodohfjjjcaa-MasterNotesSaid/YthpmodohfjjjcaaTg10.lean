/- What a table tells: how it is gathered. -/
import Derived.Test.YthpmodohfjjjcaaHh10
import Derived.Test.YthpmodohfjjjcaaNw10
namespace Go.Proofs.Ythpmodohfjjjcaa
open Go.RowKit

/-- What is told: the node, the note. -/
abbrev Td := Int × Nt
def tdE (t : Td) : List Value := .int .i64 t.1 :: ntE t.2
theorem tdEnc : Enc 6 tdE := ⟨fun _ => rfl, fun a u hu => by
  simp only [tdE, ntE, List.mem_cons, List.not_mem_nil, or_false] at hu
  rcases hu with rfl | rfl | rfl | rfl | rfl | rfl <;> rfl, by omega⟩
theorem tdInfo0 : (Try.prog.info? 50).map (fun i => (i.zero, i.size, i.bytes)) = some (some (.agg #[.int .i64 0, .int .i64 0, .int .i64 0, .int .i64 0, .int .i64 0, .int .i64 0]), 6, 48) := by kernel_rfl
theorem tdInf : Inf 47 50 6 48 := ⟨Try.underlying47, by
  have h := tdInfo0
  cases hq : Try.prog.info? 50 with
  | none => rw [hq] at h; cases h
  | some i0 =>
    rw [hq] at h
    simp only [Option.map_some, Option.some.injEq, Prod.mk.injEq] at h
    exact ⟨i0, _, rfl, h.1, h.2.1, h.2.2, rfl⟩⟩
abbrev RT (w : World) (v : Value) (l : List Td) : Prop := RG w 6 tdE v l
theorem td_one (w : World) (z : Int) (n : Nt) (t : TypeId) : IsG (w.alloc (.cells #[.int .i64 z, .int .i64 n.kind, .int .i64 n.epoch, .int .i64 n.res, .int .i64 n.mode, .int .i64 n.seq] t)) 6 tdE (some ⟨w.heap.size, 0, none⟩) 1 [(z, n)] :=
  IsG.one (by simp) (fun j u hj => by
    match j, hj with
    | 0, hj | 1, hj | 2, hj | 3, hj | 4, hj | 5, hj => simp [tdE, ntE] at hj; subst hj; simp [go_sem]
    | j + 6, hj => simp [tdE, ntE] at hj)
/-- Of each claim what is told of it. -/
def tdsM (kind ep res : Int) (last : Nat → Int) (l : List Cl) : List Td := l.map fun c => (c.1, ⟨kind, ep, res, c.2, last c.1.toNat⟩)
theorem tdsM_step {l : List Cl} {k : Nat} {c : Cl} (hc : l[k]? = some c) (kind ep res : Int) (last : Nat → Int) : tdsM kind ep res last (l.take (k + 1)) = tdsM kind ep res last (l.take k) ++ [(c.1, ⟨kind, ep, res, c.2, last c.1.toNat⟩)] := by
  obtain ⟨hk, e⟩ := List.getElem?_eq_some_iff.1 hc
  unfold tdsM
  rw [List.take_succ_eq_append_getElem hk, e, List.map_append]
  rfl
/-- What a teller leans on: the two boxes that it captured, the table's number and lasts, the list that it gathers into. -/
structure Ga (w : World) (tb bt ba al : Nat) (ep : Int) (r : Nat) (last : Nat → Int) (T : Value) (l : List Td) : Prop where
  b1 : w.cell? ⟨bt, 0, none⟩ = some (.pointer (some ⟨tb, 0, none⟩))
  b2 : w.cell? ⟨ba, 0, none⟩ = some (.pointer (some ⟨al, 0, none⟩))
  b3 : w.cell? ⟨al, 0, none⟩ = some T
  f3 : w.frozen? ⟨al, 0, none⟩ = false
  c0 : w.cell? ⟨tb, 0, none⟩ = some (.int .i64 ep)
  ls : ∀ j, j < 8 → w.cell? ⟨tb, 34 + r * 8 + j, none⟩ = some (.int .i64 (last j))
  row : RT w T l
  d1 : al ≠ tb
  d2 : al ≠ bt
  d3 : al ≠ ba
  e1 : blk T ≠ some tb
  e2 : blk T ≠ some bt
  e3 : blk T ≠ some ba
  e4 : blk T ≠ some al
theorem Ga.later {S : Nat → Prop} {w w' : World} {tb bt ba al : Nat} {ep : Int} {r : Nat} {last : Nat → Int} {T : Value} {l : List Td} (x : Ga w tb bt ba al ep r last T l) (m : Mod S w w') (h1 : ¬ S tb) (h2 : ¬ S bt) (h3 : ¬ S ba) (h4 : ¬ S al) (h5 : ∀ g, blk T = some g → ¬ S g) : Ga w' tb bt ba al ep r last T l :=
  ⟨(m.cell (p := ⟨bt, 0, none⟩) (lt_of_cell x.b1) h2).trans x.b1, (m.cell (p := ⟨ba, 0, none⟩) (lt_of_cell x.b2) h3).trans x.b2, (m.cell (p := ⟨al, 0, none⟩) (lt_of_cell x.b3) h4).trans x.b3, (m.frozen (p := ⟨al, 0, none⟩) (lt_of_cell x.b3) h4).trans x.f3,
    (m.cell (p := ⟨tb, 0, none⟩) (lt_of_cell x.c0) h1).trans x.c0, fun j hj => (m.cell (p := ⟨tb, 34 + r * 8 + j, none⟩) (lt_of_cell x.c0) h1).trans (x.ls j hj), x.row.later m h5, x.d1, x.d2, x.d3, x.e1, x.e2, x.e3, x.e4⟩
theorem Ga.below {w w' : World} {tb bt ba al : Nat} {ep : Int} {r : Nat} {last : Nat → Int} {T : Value} {l : List Td} (x : Ga w tb bt ba al ep r last T l) (m : Below w.heap.size w w') : Ga w' tb bt ba al ep r last T l :=
  x.later (Mod.of_below (S := fun _ => False) m) id id id id (fun _ _ => id)
theorem Ga.more {w w6 : World} {tb bt ba al : Nat} {ep : Int} {r : Nat} {last : Nat → Int} {T : Value} {l : List Td} (x : Ga w tb bt ba al ep r last T l) (m : Mod (fun g => blk T = some g) w w6) {T6 : Value} {l6 : List Td} (r6 : RT w6 T6 l6)
    (hb : blk T6 = blk T ∨ ∃ g, blk T6 = some g ∧ w.heap.size ≤ g) : Ga (w6.setCell ⟨al, 0, none⟩ T6) tb bt ba al ep r last T6 l6 := by
  have ne : ∀ g, g < w.heap.size → blk T ≠ some g → blk T6 ≠ some g := fun g hg hn e => by
    rcases hb with h | ⟨g', h, h2⟩
    · exact hn (h ▸ e)
    · rw [h] at e; injection e with e; omega
  have a1 := lt_of_cell x.c0
  have a2 := lt_of_cell x.b1
  have a3 := lt_of_cell x.b2
  have a4 := lt_of_cell x.b3
  have n4 := ne al a4 x.e4
  refine ⟨set_other (by simpa using x.d2) ((m.cell (p := ⟨bt, 0, none⟩) a2 x.e2).trans x.b1), set_other (by simpa using x.d3) ((m.cell (p := ⟨ba, 0, none⟩) a3 x.e3).trans x.b2), set_same ((m.cell (p := ⟨al, 0, none⟩) a4 x.e4).trans x.b3), set_frozen ((m.frozen (p := ⟨al, 0, none⟩) a4 x.e4).trans x.f3),
    set_other (by simpa using x.d1) ((m.cell (p := ⟨tb, 0, none⟩) a1 x.e1).trans x.c0), fun j hj => set_other (by simp) ((m.cell (p := ⟨tb, 34 + r * 8 + j, none⟩) a1 x.e1).trans (x.ls j hj)), r6.later (S := (· = al)) ((Mod.refl _ w6).set1 _) (fun g hg e => n4 (e ▸ hg)), x.d1, x.d2, x.d3, ne tb a1 x.e1, ne bt a2 x.e2, ne ba a3 x.e3, n4⟩
/-- Worlds in which but a row's block nothing has turned. -/
abbrev Crw (W : World) (T : Value) : World → Prop := fun u => Mod (fun g => blk T = some g) W u
instance (W : World) (T : Value) : Nonempty (In (Crw W T)) := ⟨⟨W, Mod.refl _ _⟩⟩
set_option maxRecDepth 100000 in
set_option maxHeartbeats 4000000 in
theorem gather_any {w : World} {tb bt ba al : Nat} {ep : Int} {r : Nat} {last : Nat → Int} {T : Value} {l : List Td} (x : Ga w tb bt ba al ep r last T l) (hr : r < 16) (kind : Int) (A : Option Addr) (n c : Nat) (cl : List Cl) (hc : IsC w A n cl)
    (hn : ∀ c ∈ cl, 0 ≤ c.1 ∧ c.1 < 8) (ha : ∀ g, blk (.slice A n c) = some g → g ≠ al ∧ blk T ≠ some g) (hl : l.length + n ≤ 50000) :
    Calls Try.prog 70 #[.int .i64 kind, .int .i64 (r : Int), .slice A n c, .pointer (some ⟨bt, 0, none⟩), .pointer (some ⟨ba, 0, none⟩)] w fun e w' => e = .returned (.tuple #[]) ∧
      ∃ T', Ga w' tb bt ba al ep r last T' (l ++ tdsM kind ep r last cl) ∧ Mod (fun g => g = al ∨ blk T = some g) w w' ∧ (blk T' = blk T ∨ ∃ g, blk T' = some g ∧ w.heap.size ≤ g) := by
  have X := Lib.hid x
  have C := Lib.hid hc
  have HN := Lib.hid hn
  have HA := Lib.hid ha
  have hns := hc.small
  have hnl := hc.length
  clear x hc hn ha
  have hr0 : (0 : Int) ≤ (r : Int) := by omega
  have hr1 : (r : Int) < 16 := by omega
  go_enter Try.func70, Try.ntmps70
  go_wp2_with fail
  go_loopw [9, 10, 13] (fun _ _ i wr => ∃ (k : Nat) (T0 : Value), i = .int .i64 (k : Int) ∧ k ≤ n ∧ Hid (Ga wr tb bt ba al ep r last T0 (l ++ tdsM kind ep r last (cl.take k))) ∧ Hid (Mod (fun g => g = al ∨ blk T = some g) w wr) ∧ Hid (blk T0 = blk T ∨ ∃ g, blk T0 = some g ∧ w.heap.size ≤ g)) (fun _ _ i _ => n - (intOf i).toNat)
  case atStart => exact ⟨0, T, rfl, Nat.zero_le _, Lib.hid (by simpa [tdsM] using X.out), Lib.hid (Mod.refl _ _), Lib.hid (.inl rfl)⟩
  case round =>
    obtain ⟨k, T0, rfl, hk, HG, HM, HT⟩ := hrel
    by_cases hlt : k < n
    · obtain ⟨c9, hc9⟩ : ∃ x, cl[k]? = some x := ⟨_, List.getElem?_eq_getElem (by omega)⟩
      obtain ⟨g, off, rfl, hg, hcs⟩ := C.out.cells (by omega)
      obtain ⟨a0, a1⟩ := hcs k c9 hc9
      have hna : ¬ (g = al ∨ blk T = some g) := by
        have := HA.out g rfl
        rintro (e | e)
        · exact this.1 e
        · exact this.2 e
      have c0 := (HM.out.cell (p := ⟨g, off + k * 2, none⟩) hg hna).trans a0
      have c1 := (HM.out.cell (p := ⟨g, off + k * 2 + 1, none⟩) hg hna).trans a1
      have Hst := Lib.hid (tdsM_step hc9 kind ep r last)
      obtain ⟨z, hz⟩ : ∃ z : Nat, c9.1 = (z : Int) := ⟨c9.1.toNat, by have := HN.out c9 (List.mem_of_getElem? hc9); omega⟩
      have hz8 : z < 8 := by have := HN.out c9 (List.mem_of_getElem? hc9); omega
      have hzt : c9.1.toNat = z := by omega
      rw [hzt, hz] at Hst
      rw [hz] at c0
      obtain ⟨md, hmd⟩ : ∃ m, c9.2 = m := ⟨_, rfl⟩
      rw [hmd] at c1 Hst
      have hz0 : (0 : Int) ≤ (z : Int) := by omega
      have hz1 : (z : Int) < 8 := by omega
      have hkn : (k : Int) < (n : Int) := by omega
      clear hcs a0 a1 hc9 hz hzt hmd
      obtain ⟨W, HW⟩ : ∃ x, Hid (wr.alloc (.cells #[.int .i64 (z : Int), .int .i64 md] 61) = x) := ⟨_, Lib.hid rfl⟩
      obtain ⟨p, Hp⟩ : ∃ x, Hid (wr.heap.size = x) := ⟨_, Lib.hid rfl⟩
      have HB : Hid (Below wr.heap.size wr W) := Lib.hid (by rw [← HW.out]; exact balloc (Below.refl _ _) _)
      have G1 := Lib.hid (HG.out.below HB.out)
      have hpa : p ≠ al := by have := lt_of_cell HG.out.b3; have := Hp.out; omega
      have P0 : Hid (W.cell? ⟨p, 0, none⟩ = some (.int .i64 (z : Int))) := Lib.hid (by rw [← HW.out, ← Hp.out]; simp [go_sem])
      have P1 : Hid (W.cell? ⟨p, 1, none⟩ = some (.int .i64 md)) := Lib.hid (by rw [← HW.out, ← Hp.out]; simp [go_sem])
      have q0 : ∀ y : In (Abv W), y.u.cell? ⟨p, 0, none⟩ = some (.int .i64 (z : Int)) := fun y => (y.is.cell (p := ⟨p, 0, none⟩) (lt_of_cell P0.out)).trans P0.out
      have q1 : ∀ y : In (Abv W), y.u.cell? ⟨p, 1, none⟩ = some (.int .i64 md) := fun y => (y.is.cell (p := ⟨p, 1, none⟩) (lt_of_cell P0.out)).trans P1.out
      have q2 : ∀ y : In (Abv W), y.u.cell? ⟨bt, 0, none⟩ = some (.pointer (some ⟨tb, 0, none⟩)) := fun y => (G1.out.below y.is).b1
      have q3 : ∀ y : In (Abv W), y.u.cell? ⟨tb, 0, none⟩ = some (.int .i64 ep) := fun y => (G1.out.below y.is).c0
      have q4 : ∀ y : In (Abv W), y.u.cell? ⟨tb, 34 + r * 8 + z, none⟩ = some (.int .i64 (last z)) := fun y => (G1.out.below y.is).ls z hz8
      go_wp2_with fail
      rw [HW.out, Hp.out]
      refine wp_region_mix (by kernel_rfl) (Cls (Abv W)) [(0, 0), (1, 0), (2, 0), (3, 0), (4, 0), (5, 0), (6, 0), (7, 0), (8, 0), (9, 0), (10, 0), (11, 0), (12, 0), (13, 0), (14, 0), (15, 0), (16, 0), (17, 0), (18, 1), (19, 2)] (by kernel_rfl) (cls (Below.refl _ W).drew) ?_
      repeat (refine mix0 rfl (fun K hK => ?_); go_simp; refine hK _ ?_; clear hK K)
      refine mix1 rfl (fun K hK => ?_); go_simp
      refine hK _ _ (cls (balloc (drewB W) _)) ?_
      clear hK K
      refine mix2 rfl (fun K hK => ?_); go_simp; refine hK _ _ ?_; clear hK K
      refine mixEnd ?_
      clear q0 q1 q2 q3 q4
      obtain ⟨W3, HW3⟩ : ∃ x, Hid ((W.alloc (.cells #[.int .i64 kind, .int .i64 ep, .int .i64 (r : Int), .int .i64 md, .int .i64 (last z)] 23)).drew = x) := ⟨_, Lib.hid rfl⟩
      obtain ⟨np, Hnp⟩ : ∃ x, Hid (W.heap.size = x) := ⟨_, Lib.hid rfl⟩
      have B3 : Hid (Below W.heap.size W W3) := Lib.hid (by rw [← HW3.out]; exact (balloc (Below.refl _ _) _).drew)
      have N3 : Hid (NtAt W3 np ⟨kind, ep, (r : Int), md, last z⟩) := Lib.hid (by rw [← HW3.out, ← Hnp.out]; exact (NtAt.new W ⟨kind, ep, (r : Int), md, last z⟩ _).below (drewB _))
      have G3 := Lib.hid (G1.out.below B3.out)
      have P3 : Hid (W3.cell? ⟨p, 0, none⟩ = some (.int .i64 (z : Int))) := Lib.hid ((B3.out.cell (p := ⟨p, 0, none⟩) (lt_of_cell P0.out)).trans P0.out)
      have BW3 : Hid (Below wr.heap.size wr W3) := Lib.hid (bnext HB.out B3.out)
      rw [HW3.out, Hnp.out]
      have hTp : blk T0 ≠ some p := fun e => by have := HG.out.row.lt e; have := Hp.out; omega
      have hTn : blk T0 ≠ some np := fun e => by have := HG.out.row.lt e; have := Hnp.out; have := HB.out.size; omega
      have q0 : ∀ y : In (Crw W3 T0), y.u.cell? ⟨p, 0, none⟩ = some (.int .i64 (z : Int)) := fun y => (y.is.cell (p := ⟨p, 0, none⟩) (lt_of_cell P3.out) hTp).trans P3.out
      have q1 : ∀ y : In (Crw W3 T0), y.u.cell? ⟨np, 0, none⟩ = some (.int .i64 kind) := fun y => (N3.out.later y.is hTn).c0
      have q2 : ∀ y : In (Crw W3 T0), y.u.cell? ⟨np, 1, none⟩ = some (.int .i64 ep) := fun y => (N3.out.later y.is hTn).c1
      have q3 : ∀ y : In (Crw W3 T0), y.u.cell? ⟨np, 2, none⟩ = some (.int .i64 (r : Int)) := fun y => (N3.out.later y.is hTn).c2
      have q4 : ∀ y : In (Crw W3 T0), y.u.cell? ⟨np, 3, none⟩ = some (.int .i64 md) := fun y => (N3.out.later y.is hTn).c3
      have q5 : ∀ y : In (Crw W3 T0), y.u.cell? ⟨np, 4, none⟩ = some (.int .i64 (last z)) := fun y => (N3.out.later y.is hTn).c4
      have q6 : ∀ y : In (Crw W3 T0), y.u.cell? ⟨ba, 0, none⟩ = some (.pointer (some ⟨al, 0, none⟩)) := fun y => (y.is.cell (p := ⟨ba, 0, none⟩) (lt_of_cell G3.out.b2) G3.out.e3).trans G3.out.b2
      have q7 : ∀ y : In (Crw W3 T0), y.u.cell? ⟨al, 0, none⟩ = some T0 := fun y => (y.is.cell (p := ⟨al, 0, none⟩) (lt_of_cell G3.out.b3) G3.out.e4).trans G3.out.b3
      go_wp2_with fail
      refine wp_region_mix (by kernel_rfl) (Cls (Crw W3 T0)) [(0, 0), (1, 0), (2, 0), (3, 0), (4, 0), (5, 0), (6, 0), (7, 0), (8, 1), (9, 1), (10, 0), (11, 2)] (by kernel_rfl) (cls (Mod.refl _ W3).drew) ?_
      repeat (refine mix0 rfl (fun K hK => ?_); go_simp; refine hK _ ?_; clear hK K)
      refine mix1 rfl (fun K hK => ?_); go_simp
      obtain ⟨w5, HW5⟩ : ∃ x, Hid ((W3.alloc (.cells #[.int .i64 (z : Int), .int .i64 kind, .int .i64 ep, .int .i64 (r : Int), .int .i64 md, .int .i64 (last z)] 50)).drew = x) := ⟨_, Lib.hid rfl⟩
      obtain ⟨p5, Hp5⟩ : ∃ x, Hid (W3.heap.size = x) := ⟨_, Lib.hid rfl⟩
      have B5 : Hid (Below W3.heap.size W3 w5) := Lib.hid (by rw [← HW5.out]; exact (balloc (Below.refl _ _) _).drew)
      have S5 : Hid (IsG w5 6 tdE (some ⟨p5, 0, none⟩) 1 [((z : Int), ⟨kind, ep, (r : Int), md, last z⟩)]) := Lib.hid (by rw [← HW5.out, ← Hp5.out]; exact (td_one W3 (z : Int) ⟨kind, ep, (r : Int), md, last z⟩ _).below (drewB _))
      have G5 := Lib.hid (G3.out.below B5.out)
      rw [HW5.out, Hp5.out]
      refine hK _ _ (cls (Mod.of_below B5.out)) ?_
      clear hK K
      have hlen : (l ++ tdsM kind ep (r : Int) last (cl.take k)).length + 1 ≤ 100000 := by
        rw [List.length_append, tdsM, List.length_map, List.length_take]; omega
      obtain ⟨T6, w6, hr6, r6, a6⟩ := appG tdInf tdEnc G5.out.row (c := 1) S5.out hlen (by decide) 47
      have Hr6 := Lib.hid hr6
      have M36 : Hid (Mod (fun g => blk T0 = some g) W3 w6) := Lib.hid ((Mod.of_below B5.out).trans a6.mod)
      have HT6 : Hid (blk T6 = blk T0 ∨ ∃ g, blk T6 = some g ∧ W3.heap.size ≤ g) := Lib.hid (by
        rcases a6.blk with e | ⟨g', e, h'⟩
        · exact .inl e
        · exact .inr ⟨g', e, Nat.le_trans B5.out.size h'⟩)
      have G7 : Hid (Ga (w6.setCell ⟨al, 0, none⟩ T6) tb bt ba al ep r last T6 ((l ++ tdsM kind ep (r : Int) last (cl.take k)) ++ [((z : Int), ⟨kind, ep, (r : Int), md, last z⟩)])) := Lib.hid (G3.out.more M36.out r6 HT6.out)
      rw [List.append_assoc, ← Hst.out] at G7
      have M7 : Hid (Mod (fun g => g = al ∨ blk T = some g) w (w6.setCell ⟨al, 0, none⟩ T6)) := Lib.hid (by
        have m1 : Mod (fun g => g = al ∨ blk T = some g) w w6 := by
          refine ⟨M36.out.os.trans (BW3.out.os.trans HM.out.os), M36.out.tape.trans (BW3.out.tape.trans HM.out.tape), M36.out.output.trans (BW3.out.output.trans HM.out.output), Nat.le_trans HM.out.size (Nat.le_trans BW3.out.size M36.out.size), fun j hj hs => ?_⟩
          have h1 : j < wr.heap.size := Nat.lt_of_lt_of_le hj HM.out.size
          have hn : blk T0 ≠ some j := fun e => by
            rcases HT.out with h | ⟨g', h, h2⟩
            · exact hs (.inr (h ▸ e))
            · rw [h] at e; injection e with e; omega
          exact (M36.out.block j (Nat.lt_of_lt_of_le h1 BW3.out.size) hn).trans ((BW3.out.block j h1).trans (HM.out.block j hj hs))
        exact m1.setCell (.inl (.inl rfl)) _)
      have HT7 : Hid (blk T6 = blk T ∨ ∃ g, blk T6 = some g ∧ w.heap.size ≤ g) := Lib.hid (by
        rcases HT6.out with e | ⟨g', e, h'⟩
        · rcases HT.out with h | h
          · exact .inl (e.trans h)
          · exact .inr (by rw [e]; exact h)
        · exact .inr ⟨g', e, Nat.le_trans HM.out.size (Nat.le_trans BW3.out.size h')⟩)
      have d0 := (M36.out.cell (p := ⟨al, 0, none⟩) (lt_of_cell G3.out.b3) G3.out.e4).trans G3.out.b3
      have d1 := (M36.out.frozen (p := ⟨al, 0, none⟩) (lt_of_cell G3.out.b3) G3.out.e4).trans G3.out.f3
      have hT6v : ∃ A6 n6 c6, T6 = .slice A6 n6 c6 := by
        obtain ⟨A6, c6, e⟩ := r6.shape
        exact ⟨_, _, _, e⟩
      obtain ⟨A6, n6, c6, rfl⟩ := hT6v
      have hT0v : ∃ A6 n6 c6, T0 = .slice A6 n6 c6 := by
        obtain ⟨A6, c6, e⟩ := HG.out.row.shape
        exact ⟨_, _, _, e⟩
      obtain ⟨A0, n0, c0, rfl⟩ := hT0v
      refine mix_append rfl rfl (.tmp 38) (.tmp 43) 47 rfl (by exact Hr6.out) (cls M36.out) ?_
      clear hr6 r6 a6
      repeat (refine mix0 rfl (fun K hK => ?_); go_simp; refine hK _ ?_; clear hK K)
      refine mix2 rfl (fun K hK => ?_); go_simp; refine hK _ _ ?_; clear hK K
      refine mixEnd ?_
      clear q0 q1 q2 q3 q4 q5 q6 q7 d0 d1
      go_wp2
      go_roundw
      case rel => exact ⟨k + 1, _, by go_num, by omega, G7, M7, HT7⟩
      case measure => simp [intOf]; omega
    · have hkn : ¬ ((k : Int) < (n : Int)) := by omega
      obtain rfl : k = n := by omega
      have HG2 := HG.out
      rw [List.take_of_length_le (by omega)] at HG2
      have HG3 := Lib.hid HG2
      clear HG2
      go_wp2
      go_end0
      exact ⟨rfl, T0, HG3.out, HM.out, HT.out⟩
end Go.Proofs.Ythpmodohfjjjcaa
