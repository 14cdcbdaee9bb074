/- The document's Ready. -/
import Derived.Test.YtfdbkmncgngkjaaRf6
namespace Go.Proofs.Ytfdbkmncgngkjaa
open Go.RowKit

def rd (node : Int) (m : Mb) : Mb := if m.1 == node && !m.2.2 then (m.1, m.2.1, true) else m
def pRd (node : Int) (m : Mb) : Bool := m.1 == node && !m.2.2
theorem rd_yes {node : Int} {m : Mb} (h : pRd node m = true) : rd node m = (m.1, m.2.1, true) := if_pos h
theorem rd_no {node : Int} {m : Mb} (h : pRd node m = false) : rd node m = m := if_neg (by unfold pRd at h; rw [h]; decide)
theorem ready_at {V : Vw} (h : Ok V) {node inc : Int} (hi : incOf V node = inc) (h1 : 1 ≤ inc) :
    ∃ i m, i = V.mem.findIdx (pIs node inc) ∧ V.mem[i]? = some m ∧ m.1 = node ∧ m.2.1 = inc ∧ ∀ (j : Nat) (q : Mb), V.mem[j]? = some q → j ≠ i → q.1 ≠ node := by
  obtain ⟨m0, hm0, e0, e1⟩ := incOf_no (V := V) (node := node) (by omega)
  have hlt : V.mem.findIdx (pIs node inc) < V.mem.length := List.findIdx_lt_length_of_exists ⟨m0, hm0, by simp [pIs, e0, e1, hi]⟩
  have hm := List.getElem?_eq_getElem hlt
  obtain ⟨a1, a2⟩ := is_at hm
  refine ⟨_, _, rfl, hm, a1, a2, fun j q hq hj e => ?_⟩
  obtain ⟨hjl, hjq⟩ := List.getElem?_eq_some_iff.1 hq
  have hp := List.pairwise_iff_getElem.1 h.mp
  rcases Nat.lt_or_gt_of_ne hj with hl | hl
  · have := hp j _ hjl hlt hl
    rw [hjq] at this
    omega
  · have := hp _ j hlt hjl hl
    rw [hjq] at this
    omega
theorem ready_any {V : Vw} (h : Ok V) {node inc : Int} (hi : incOf V node = inc) (h1 : 1 ≤ inc) : V.mem.any (pRd node) = readyB V node inc := by
  obtain ⟨i, m, e, hm, a1, a2, hu⟩ := ready_at h hi h1
  have hr : readyB V node inc = !m.2.2 := by
    unfold readyB
    rw [(ok_iff V).2 h, ← e, hm]
    rfl
  rw [hr]
  cases hx : m.2.2 with
  | false => exact List.any_eq_true.2 ⟨m, List.mem_of_getElem? hm, by simp [pRd, a1, hx]⟩
  | true =>
    refine Bool.eq_false_iff.2 fun ha => ?_
    obtain ⟨q, hq, hp⟩ := List.any_eq_true.1 ha
    obtain ⟨j, hj⟩ := List.mem_iff_getElem?.1 hq
    simp only [pRd, Bool.and_eq_true, beq_iff_eq, Bool.not_eq_true'] at hp
    by_cases hji : j = i
    · subst hji
      rw [hm] at hj
      cases hj
      rw [hx] at hp
      exact absurd hp.2 (by decide)
    · exact hu j q hj hji hp.1
theorem ready_map {V : Vw} (h : Ok V) {node inc : Int} (hi : incOf V node = inc) (h1 : 1 ≤ inc) (hb : readyB V node inc = true) : { V with mem := V.mem.map (rd node) } = readyV V node inc := by
  obtain ⟨i, m, e, hm, a1, a2, hu⟩ := ready_at h hi h1
  obtain ⟨m', hm', hf, ev⟩ := ready_parts hb
  rw [← e, hm] at hm'
  cases hm'
  rw [ev, ← e]
  have : V.mem.map (rd node) = V.mem.set i (m.1, m.2.1, true) := by
    refine List.ext_getElem? fun j => ?_
    rw [List.getElem?_map, List.getElem?_set]
    by_cases hji : i = j
    · subst hji
      rw [hm, if_pos rfl, if_pos (List.getElem?_eq_some_iff.1 hm).1]
      exact congrArg some (rd_yes (by simp [pRd, a1, hf]))
    · rw [if_neg hji]
      cases hq : V.mem[j]? with
      | none => rfl
      | some q => exact congrArg some (rd_no (by simp [pRd, hu j q hq (fun e => hji e.symm)]))
  rw [this]
theorem ready_no {V : Vw} {node inc : Int} (hb : readyB V node inc = true) : Ok V ∧ 1 ≤ inc ∧ incOf V node = inc := by
  have hok : Ok V := by
    simp only [readyB, Bool.and_eq_true] at hb
    exact (ok_iff V).1 hb.1
  obtain ⟨m, hm, _, _⟩ := ready_parts hb
  obtain ⟨a1, a2⟩ := is_at hm
  have hmem := List.mem_of_getElem? hm
  have := hok.mm m hmem
  have h2 := incOf_mem hok.mp hmem
  rw [a1, a2] at h2
  exact ⟨hok, by omega, h2⟩
section
variable {w0 w w1 w2 : World} {b g : Nat} {x : Vx} {V : Vw}
theorem Cp.mem0 {y : Vx} {V' : Vw} (h : Cp w0 w b g x y V V') : Cp w0 (w.setCell ⟨g, 2, none⟩ (.slice none 0 0)) b g x { y with mA := none, mn := 0, mc := 0 } V { V' with mem := [] } := by
  have e : Mod (· = g) w (w.setCell ⟨g, 2, none⟩ (.slice none 0 0)) := mod_cell w ⟨g, 2, none⟩ _
  have hgb := h.gb
  exact ⟨h.size, h.org0, h.box.kept e (by omega), h.res.kept e (by omega), h.cp.put 2 _ _ rfl, ⟨h.isV.nodes, h.isV.epoch, ⟨rfl, Nat.le_refl _, Nat.zero_le _, fun h => absurd h (Nat.lt_irrefl _), fun _ => rfl⟩, h.isV.dead.kept e (fun hn i hi => (h.awD hn i hi).1), h.isV.incs.kept e (fun hn i hi => (h.awI hn i hi).1)⟩, fun h => absurd h (Nat.lt_irrefl _), h.awD, h.awI, e.below h.below (Nat.le_of_lt h.box.lt) (fun i hi => by rw [show i = g from hi]; omega), h.gb, ⟨fun _ h => absurd h (Nat.lt_irrefl _), h.far.dead, h.far.incs⟩⟩
theorem Cp.app {A : Option Addr} {k c cap : Nat} {q : Addr} {l : List Mb} {u : Mb} (h : Cp w0 w b g x { x with mA := A, mn := k, mc := c } V { V with mem := l }) (o : OwnL w (g + 1) A k c l) (m1 : Below w.heap.size w w1)
    (m2 : Mod (fun i => blk (.slice A k c) = some i) w1 w2) (r : Row w2 3 (.slice (some q) (k + 1) cap) (k + 1) (mcs l ++ mb1 u)) (hb : blk (.slice (some q) (k + 1) cap) = blk (.slice A k c) ∨ ∃ g', blk (.slice (some q) (k + 1) cap) = some g' ∧ w1.heap.size ≤ g') :
    Cp w0 (w2.setCell ⟨g, 2, none⟩ (.slice (some q) (k + 1) cap)) b g x { x with mA := some q, mn := k + 1, mc := cap } V { V with mem := l ++ [u] } ∧ OwnL (w2.setCell ⟨g, 2, none⟩ (.slice (some q) (k + 1) cap)) (g + 1) (some q) (k + 1) cap (l ++ [u]) := by
  have k1 := h.to m1
  have hgb := h.gb
  have hcl := h.cp.lt
  have hs1 := m1.size
  have e : Mod (· = g) w2 (w2.setCell ⟨g, 2, none⟩ (.slice (some q) (k + 1) cap)) := mod_cell w2 ⟨g, 2, none⟩ _
  have o1 : OwnL w1 (g + 1) A k c l := ⟨o.row.later (S := fun _ => False) (Mod.of_below m1) (fun _ _ h => h), o.new⟩
  have o2 : OwnL w2 (g + 1) (some q) (k + 1) cap (l ++ [u]) := OwnL.more (w := w1) o1 (by omega) u r hb
  have o3 : OwnL (w2.setCell ⟨g, 2, none⟩ (.slice (some q) (k + 1) cap)) (g + 1) (some q) (k + 1) cap (l ++ [u]) := ⟨o2.row.later e (fun i hi ei => by have h1 := o2.new i hi; have h2 : i = g := ei; omega), o2.new⟩
  have far {P : Prop} (i : Nat) (hi : i ≤ g) (ei : blk (.slice A k c) = some i) : P := by have := o.new i ei; omega
  have c2 : BoxV w2 g { x with mA := A, mn := k, mc := c } := k1.cp.kept m2 (far g (Nat.le_refl _))
  have hd : 0 < x.dn → ∀ i, blk (dS x) = some i → i < g := fun hn i hi => by have := h.org0.dead.lowB hn i hi; have := h.size; omega
  have hi' : 0 < x.ir → ∀ i, blk (iS x) = some i → i < g := fun hn i hi => by have := h.org0.incs.lowB hn i hi; have := h.size; omega
  refine ⟨⟨h.size, h.org0, (k1.box.kept m2 (far b (by omega))).kept e (by omega), (k1.res.kept m2 (far (b + 1) (by omega))).kept e (by omega), c2.put 2 _ _ rfl,
    ⟨h.isV.nodes, h.isV.epoch, o3.isL, (k1.isV.dead.kept m2 (fun hn i hi => far i (Nat.le_of_lt (hd hn i hi)))).kept e (fun hn i hi => (h.awD hn i hi).1), (k1.isV.incs.kept m2 (fun hn i hi => far i (Nat.le_of_lt (hi' hn i hi)))).kept e (fun hn i hi => (h.awI hn i hi).1)⟩, fun _ i hi => ?_, h.awD, h.awI, ?_, h.gb, ⟨FarS.new (fun i hi => by have := o3.new i hi; omega), h.far.dead, h.far.incs⟩⟩, o3⟩
  · have := o3.new i hi
    exact ⟨by omega, by omega⟩
  · have hb1 := k1.box.lt
    have hs2 := m2.size
    exact e.below (m2.below k1.below (Nat.le_of_lt hb1) (fun i ei => by have := o.new i ei; omega)) (by omega) (fun i hi => by rw [show i = g from hi]; omega)
end
set_option maxRecDepth 100000 in
set_option maxHeartbeats 4000000 in
theorem RReady_any (w : World) (x : Vx) (V : Vw) (h : IsV w x V) (hs : V.mem.length ≤ 1000) (node inc : Int) :
    Calls Try.prog 28 #[vV x, .int .i64 node, .int .i64 inc] w fun e w' => ∃ x', e = .returned (.tuple #[vV x', .bool (readyB V node inc)]) ∧ IsV w' x' (readyV V node inc) ∧ Below w.heap.size w w' ∧ Far w.heap.size x x' := by
  have hml := h.mem.length
  obtain ⟨i0, hi, hz0, hz1, hz2⟩ := info_parts infoM
  have Hi := Lib.hid hi
  have Hz0 := Lib.hid hz0
  have Hz1 := Lib.hid hz1
  have Hz2 := Lib.hid hz2
  clear hi hz0 hz1 hz2
  obtain ⟨I, HI⟩ : ∃ I, Hid (incOf V node = I) := ⟨_, Lib.hid rfl⟩
  go_enter Try.func28, Try.ntmps28
  go_upto_region 1 with (fail)
  obtain ⟨w1, Hw1⟩ : ∃ w1, Hid ((w.alloc (.cells (vC x) 25)).alloc (.cells (vC noVx) 25) = w1) := ⟨_, Lib.hid rfl⟩
  obtain ⟨b, Hb⟩ : ∃ b, Hid (w.heap.size = b) := ⟨_, Lib.hid rfl⟩
  have HA : Hid (BoxV w1 b x) := Lib.hid (by rw [← Hw1.out, ← Hb.out]; exact (BoxV.new w x).below ((Below.refl _ _).alloc (Nat.le_refl _) _))
  have HR : Hid (BoxV w1 (b + 1) noVx) := Lib.hid (by
    have := BoxV.new (w.alloc (.cells (vC x) 25)) noVx
    rw [Hw1.out] at this
    simpa [Hb.out] using this)
  have HB1 : Hid (Below b w w1) := Lib.hid (by rw [← Hb.out, ← Hw1.out]; exact balloc ((Below.refl _ _).alloc (Nat.le_refl _) _) _)
  have HV1 : Hid (IsV w1 x V) := Lib.hid (h.below (by rw [Hb.out]; exact HB1.out))
  have Hh := Lib.hid h
  clear h
  rw [show ((w.alloc (.cells #[.int .i64 x.nodes, .int .i64 x.epoch, .slice x.mA x.mn x.mc, .slice x.dA x.dn x.dc, .slice x.iA x.ir x.ic] 25)).alloc (.cells #[.int .i64 0, .int .i64 0, .slice none 0 0, .slice none 0 0, .slice none 0 0] 25)) = w1 from Hw1.out, Hb.out]
  obtain ⟨v0, v1, v2, v3, v4⟩ := HA.out.cells
  go_wp2_with fail
  refine (RCheck_any w1 x V HV1.out hs).mono ?_
  rintro e w3 ⟨rfl, b3⟩
  have HB3 : Hid (Below b w w3) := Lib.hid (HB1.out.trans (b3.mono (Nat.le_of_lt HA.out.lt)))
  have HA3 := Lib.hid (HA.out.below b3)
  have HR3 := Lib.hid (HR.out.below b3)
  clear b3 v0 v1 v2 v3 v4
  obtain ⟨v0, v1, v2, v3, v4⟩ := HA3.out.cells
  by_cases hyes : Ok V ∧ 1 ≤ inc
  · obtain ⟨hok, hi1⟩ := hyes
    have q1 : (chkE V != 0) = false := by rw [chkE_ok hok]; rfl
    have q2 : ¬ inc < 1 := by omega
    have Hok := Lib.hid hok
    clear hok
    go_wp2_with fail
    refine (RInc_any w3 x V (Hh.out.below (by rw [Hb.out]; exact HB3.out)) node).mono ?_
    rw [HI.out]
    rintro e w4 ⟨rfl, b4⟩
    have HB4 : Hid (Below b w w4) := Lib.hid (HB3.out.trans (b4.mono (Nat.le_of_lt HA3.out.lt)))
    have HA4 := Lib.hid (HA3.out.below b4)
    have HR4 := Lib.hid (HR3.out.below b4)
    clear b4 v0 v1 v2 v3 v4
    by_cases hII : I = inc
    · subst hII
      have q3 : (I != I) = false := by simp
      have Hany := Lib.hid (ready_any Hok.out HI.out hi1)
      have Hmap := Lib.hid (fun h => ready_map Hok.out HI.out hi1 h)
      obtain ⟨v0, v1, v2, v3, v4⟩ := HA4.out.cells
      go_upto_region 4 with (fail)
      clear v0 v1 v2 v3 v4
      obtain ⟨g, Hg⟩ : ∃ g, Hid (w4.heap.size = g) := ⟨_, Lib.hid rfl⟩
      obtain ⟨w5, Hw5⟩ : ∃ u, Hid (w4.alloc (.cells (vC x) 25) = u) := ⟨_, Lib.hid rfl⟩
      have C5 : Hid (Cp w w5 b g x x V V) := Lib.hid (by rw [← Hw5.out, ← Hg.out]; exact Cp.start Hb.out Hh.out HA4.out HR4.out HB4.out)
      rw [show w4.alloc (.cells #[.int .i64 x.nodes, .int .i64 x.epoch, .slice x.mA x.mn x.mc, .slice x.dA x.dn x.dc, .slice x.iA x.ir x.ic] 25) = w5 from Hw5.out, Hg.out]
      have C6 := Lib.hid C5.out.mem0
      have g2 := C5.out.cp.cells.2.2.1
      have gf := C5.out.cp.free 2
      go_upto_region 5 with (fail)
      clear g2 gf
      obtain ⟨w6, Hw6⟩ : ∃ u, Hid (w5.setCell ⟨g, 2, none⟩ (.slice none 0 0) = u) := ⟨_, Lib.hid rfl⟩
      rw [Hw6.out] at C6 ⊢
      go_wp2
      go_loopw [9, 10] (fun d i wr => ∃ (k : Nat) (B : Option Addr) (bc : Nat), i = .int .i64 (k : Int) ∧ k ≤ x.mn ∧ d = .bool ((V.mem.take k).any (pRd node)) ∧ Hid (Cp w wr b g x { x with mA := B, mn := k, mc := bc } V { V with mem := (V.mem.take k).map (rd node) }) ∧ Hid (OwnL wr (g + 1) B k bc ((V.mem.take k).map (rd node)))) (fun _ i _ => x.mn - (intOf i).toNat)
      case atStart => exact ⟨0, none, 0, rfl, Nat.zero_le _, rfl, C6, Lib.hid (OwnL.nil _ _)⟩
      case round =>
        obtain ⟨k, B, bc, rfl, hk, rfl, HC, HO⟩ := hrel
        obtain ⟨v0, v1, v2, v3, v4⟩ := HC.out.box.cells
        by_cases hlt : k < x.mn
        · have hd : decide ((k : Int) < (x.mn : Int)) = true := by simpa using hlt
          obtain ⟨gm, off, eA, hg, hcs⟩ := HC.out.org.mem.cells (by omega)
          obtain ⟨m, hm⟩ : ∃ m, V.mem[k]? = some m := ⟨_, List.getElem?_eq_getElem (by omega)⟩
          obtain ⟨c0, c1, c2⟩ := hcs k m hm
          have hix := fun w => idxM (n := x.mn) (c := x.mc) eA hlt w
          have Hm : Hid ((V.mem.take (k + 1)).map (rd node) = (V.mem.take k).map (rd node) ++ [rd node m]) := Lib.hid (by rw [List.take_add_one, hm]; simp)
          have Ha : Hid ((V.mem.take (k + 1)).any (pRd node) = ((V.mem.take k).any (pRd node) || pRd node m)) := Lib.hid (by rw [List.take_add_one, hm]; simp)
          clear hcs hm eA
          obtain ⟨D, HD⟩ : ∃ D, Hid ((V.mem.take k).any (pRd node) = D) := ⟨_, Lib.hid rfl⟩
          rw [HD.out] at Ha ⊢
          by_cases hn : m.1 = node
          · have hn' : (m.1 == node) = true := beq_yes hn
            cases hr : m.2.2 with
            | false =>
              rw [hr] at c2
              have hp : Hid (pRd node m = true) := Lib.hid (by simp [pRd, hn', hr])
              have Hq : Hid (rd node m = (m.1, m.2.1, true)) := Lib.hid (rd_yes hp.out)
              clear hn hr
              go_upto_region 13 with (fail)
              obtain ⟨L, HL⟩ : ∃ L, Hid ((V.mem.take k).map (rd node) = L) := ⟨_, Lib.hid rfl⟩
              rw [HL.out] at HC HO Hm
              have b1 : Below wr.heap.size wr (wr.alloc (.cells #[.int .i64 m.1, .int .i64 m.2.1, .bool true] 53)) := balloc (Below.refl _ _) _
              obtain ⟨u1, Hu1⟩ : ∃ u, Hid (wr.alloc (.cells #[.int .i64 m.1, .int .i64 m.2.1, .bool true] 53) = u) := ⟨_, Lib.hid rfl⟩
              have k0 : u1.cell? ⟨wr.heap.size, 0, none⟩ = some (.int .i64 m.1) := by rw [← Hu1.out]; exact mb1_at wr (m.1, m.2.1, true) 0 _ rfl
              have k1 : u1.cell? ⟨wr.heap.size, 1, none⟩ = some (.int .i64 m.2.1) := by rw [← Hu1.out]; exact mb1_at wr (m.1, m.2.1, true) 1 _ rfl
              have k2 : u1.cell? ⟨wr.heap.size, 2, none⟩ = some (.bool true) := by rw [← Hu1.out]; exact mb1_at wr (m.1, m.2.1, true) 2 _ rfl
              rw [Hu1.out] at b1 ⊢
              have b2 : Below wr.heap.size wr (u1.alloc (.cells #[.int .i64 m.1, .int .i64 m.2.1, .bool true] 53)) := balloc b1 _
              have Hb2 := Lib.hid b2
              have g2 := (HC.out.to b1).cp.cells.2.2.1
              have hrow : RowM (u1.alloc (.cells #[.int .i64 m.1, .int .i64 m.2.1, .bool true] 53)) B k bc L := HO.out.row.later (S := fun _ => False) (Mod.of_below b2) (fun _ _ h => h)
              have Hrow := Lib.hid hrow
              have Hat := Lib.hid (mb1_at u1 (m.1, m.2.1, true))
              clear hrow b1 b2 v0 v1 v2 v3 v4
              go_wp2_with (at_builtin; refine wpList_append_row _ rfl (.tmp 52) (.tmp 54) 22 rfl Hrow.out 53 i0 (.agg #[.int .i64 0, .int .i64 0, .bool false]) 24 Try.underlying22 Hi.out Hz0.out Hz1.out Hz2.out rfl (by decide) rfl ⟨u1.heap.size, 0, none⟩ 1 1 (mb1 (m.1, m.2.1, true)) rfl rfl Hat.out (mb1_one (m.1, m.2.1, true)) (by decide) ?c3 ?c4 ?_)
              case c3 => unfold maxLen; omega
              case c4 => omega
              intro q cap' w2 hr2 hm2 hb2
              have HA2 := Lib.hid (HC.out.app HO.out Hb2.out hm2 hr2 (hb2.imp id (fun ⟨g, h1, h2⟩ => ⟨g, h1, by simpa using h2⟩)))
              have hbx : BoxV w2 g { x with mA := B, mn := k, mc := bc } := (HC.out.to Hb2.out).cp.kept hm2 (fun e => by have := HO.out.new g e; omega)
              have g3 := hbx.cells.2.2.1
              have gf := hbx.free 2
              clear hr2 hm2 hb2 hbx g2 k0 k1 k2
              go_upto_region 8 with (fail)
              clear g3 gf
              obtain ⟨u3, Hu3⟩ : ∃ u, Hid (w2.setCell ⟨g, 2, none⟩ (.slice (some q) (k + 1) cap') = u) := ⟨_, Lib.hid rfl⟩
              rw [Hu3.out] at HA2 ⊢
              go_wp2
              go_roundw
              case rel =>
                refine ⟨k + 1, some q, cap', by go_num, by omega, by rw [Ha.out, hp.out]; rw [Bool.or_true], ?_, ?_⟩
                · rw [Hm.out, Hq.out]; exact Lib.hid HA2.out.1
                · rw [Hm.out, Hq.out]; exact Lib.hid HA2.out.2
              case measure => simp [intOf]; omega
            | true =>
              rw [hr] at c2
              have hp : Hid (pRd node m = false) := Lib.hid (by simp [pRd, hr])
              have Hq : Hid (rd node m = (m.1, m.2.1, true)) := Lib.hid (by rw [rd_no hp.out, ← hr])
              clear hn hr
              go_upto_region 13 with (fail)
              obtain ⟨L, HL⟩ : ∃ L, Hid ((V.mem.take k).map (rd node) = L) := ⟨_, Lib.hid rfl⟩
              rw [HL.out] at HC HO Hm
              have b1 : Below wr.heap.size wr (wr.alloc (.cells #[.int .i64 m.1, .int .i64 m.2.1, .bool true] 53)) := balloc (Below.refl _ _) _
              obtain ⟨u1, Hu1⟩ : ∃ u, Hid (wr.alloc (.cells #[.int .i64 m.1, .int .i64 m.2.1, .bool true] 53) = u) := ⟨_, Lib.hid rfl⟩
              have k0 : u1.cell? ⟨wr.heap.size, 0, none⟩ = some (.int .i64 m.1) := by rw [← Hu1.out]; exact mb1_at wr (m.1, m.2.1, true) 0 _ rfl
              have k1 : u1.cell? ⟨wr.heap.size, 1, none⟩ = some (.int .i64 m.2.1) := by rw [← Hu1.out]; exact mb1_at wr (m.1, m.2.1, true) 1 _ rfl
              have k2 : u1.cell? ⟨wr.heap.size, 2, none⟩ = some (.bool true) := by rw [← Hu1.out]; exact mb1_at wr (m.1, m.2.1, true) 2 _ rfl
              rw [Hu1.out] at b1 ⊢
              have b2 : Below wr.heap.size wr (u1.alloc (.cells #[.int .i64 m.1, .int .i64 m.2.1, .bool true] 53)) := balloc b1 _
              have Hb2 := Lib.hid b2
              have g2 := (HC.out.to b1).cp.cells.2.2.1
              have hrow : RowM (u1.alloc (.cells #[.int .i64 m.1, .int .i64 m.2.1, .bool true] 53)) B k bc L := HO.out.row.later (S := fun _ => False) (Mod.of_below b2) (fun _ _ h => h)
              have Hrow := Lib.hid hrow
              have Hat := Lib.hid (mb1_at u1 (m.1, m.2.1, true))
              clear hrow b1 b2 v0 v1 v2 v3 v4
              go_wp2_with (at_builtin; refine wpList_append_row _ rfl (.tmp 52) (.tmp 54) 22 rfl Hrow.out 53 i0 (.agg #[.int .i64 0, .int .i64 0, .bool false]) 24 Try.underlying22 Hi.out Hz0.out Hz1.out Hz2.out rfl (by decide) rfl ⟨u1.heap.size, 0, none⟩ 1 1 (mb1 (m.1, m.2.1, true)) rfl rfl Hat.out (mb1_one (m.1, m.2.1, true)) (by decide) ?c3 ?c4 ?_)
              case c3 => unfold maxLen; omega
              case c4 => omega
              intro q cap' w2 hr2 hm2 hb2
              have HA2 := Lib.hid (HC.out.app HO.out Hb2.out hm2 hr2 (hb2.imp id (fun ⟨g, h1, h2⟩ => ⟨g, h1, by simpa using h2⟩)))
              have hbx : BoxV w2 g { x with mA := B, mn := k, mc := bc } := (HC.out.to Hb2.out).cp.kept hm2 (fun e => by have := HO.out.new g e; omega)
              have g3 := hbx.cells.2.2.1
              have gf := hbx.free 2
              clear hr2 hm2 hb2 hbx g2 k0 k1 k2
              go_upto_region 8 with (fail)
              clear g3 gf
              obtain ⟨u3, Hu3⟩ : ∃ u, Hid (w2.setCell ⟨g, 2, none⟩ (.slice (some q) (k + 1) cap') = u) := ⟨_, Lib.hid rfl⟩
              rw [Hu3.out] at HA2 ⊢
              go_wp2
              go_roundw
              case rel =>
                refine ⟨k + 1, some q, cap', by go_num, by omega, by rw [Ha.out, hp.out]; rw [Bool.or_false], ?_, ?_⟩
                · rw [Hm.out, Hq.out]; exact Lib.hid HA2.out.1
                · rw [Hm.out, Hq.out]; exact Lib.hid HA2.out.2
              case measure => simp [intOf]; omega
          · have hn' : (m.1 == node) = false := beq_no hn
            have hp : Hid (pRd node m = false) := Lib.hid (by simp [pRd, hn'])
            have Hq : Hid (rd node m = (m.1, m.2.1, m.2.2)) := Lib.hid (rd_no hp.out)
            clear hn
            go_upto_region 13 with (fail)
            obtain ⟨L, HL⟩ : ∃ L, Hid ((V.mem.take k).map (rd node) = L) := ⟨_, Lib.hid rfl⟩
            rw [HL.out] at HC HO Hm
            have b1 : Below wr.heap.size wr (wr.alloc (.cells #[.int .i64 m.1, .int .i64 m.2.1, .bool m.2.2] 53)) := balloc (Below.refl _ _) _
            obtain ⟨u1, Hu1⟩ : ∃ u, Hid (wr.alloc (.cells #[.int .i64 m.1, .int .i64 m.2.1, .bool m.2.2] 53) = u) := ⟨_, Lib.hid rfl⟩
            have k0 : u1.cell? ⟨wr.heap.size, 0, none⟩ = some (.int .i64 m.1) := by rw [← Hu1.out]; exact mb1_at wr (m.1, m.2.1, m.2.2) 0 _ rfl
            have k1 : u1.cell? ⟨wr.heap.size, 1, none⟩ = some (.int .i64 m.2.1) := by rw [← Hu1.out]; exact mb1_at wr (m.1, m.2.1, m.2.2) 1 _ rfl
            have k2 : u1.cell? ⟨wr.heap.size, 2, none⟩ = some (.bool m.2.2) := by rw [← Hu1.out]; exact mb1_at wr (m.1, m.2.1, m.2.2) 2 _ rfl
            rw [Hu1.out] at b1 ⊢
            have b2 : Below wr.heap.size wr (u1.alloc (.cells #[.int .i64 m.1, .int .i64 m.2.1, .bool m.2.2] 53)) := balloc b1 _
            have Hb2 := Lib.hid b2
            have g2 := (HC.out.to b1).cp.cells.2.2.1
            have hrow : RowM (u1.alloc (.cells #[.int .i64 m.1, .int .i64 m.2.1, .bool m.2.2] 53)) B k bc L := HO.out.row.later (S := fun _ => False) (Mod.of_below b2) (fun _ _ h => h)
            have Hrow := Lib.hid hrow
            have Hat := Lib.hid (mb1_at u1 (m.1, m.2.1, m.2.2))
            clear hrow b1 b2 v0 v1 v2 v3 v4
            go_wp2_with (at_builtin; refine wpList_append_row _ rfl (.tmp 52) (.tmp 54) 22 rfl Hrow.out 53 i0 (.agg #[.int .i64 0, .int .i64 0, .bool false]) 24 Try.underlying22 Hi.out Hz0.out Hz1.out Hz2.out rfl (by decide) rfl ⟨u1.heap.size, 0, none⟩ 1 1 (mb1 (m.1, m.2.1, m.2.2)) rfl rfl Hat.out (mb1_one (m.1, m.2.1, m.2.2)) (by decide) ?c3 ?c4 ?_)
            case c3 => unfold maxLen; omega
            case c4 => omega
            intro q cap' w2 hr2 hm2 hb2
            have HA2 := Lib.hid (HC.out.app HO.out Hb2.out hm2 hr2 (hb2.imp id (fun ⟨g, h1, h2⟩ => ⟨g, h1, by simpa using h2⟩)))
            have hbx : BoxV w2 g { x with mA := B, mn := k, mc := bc } := (HC.out.to Hb2.out).cp.kept hm2 (fun e => by have := HO.out.new g e; omega)
            have g3 := hbx.cells.2.2.1
            have gf := hbx.free 2
            clear hr2 hm2 hb2 hbx g2 k0 k1 k2
            go_upto_region 8 with (fail)
            clear g3 gf
            obtain ⟨u3, Hu3⟩ : ∃ u, Hid (w2.setCell ⟨g, 2, none⟩ (.slice (some q) (k + 1) cap') = u) := ⟨_, Lib.hid rfl⟩
            rw [Hu3.out] at HA2 ⊢
            go_wp2
            go_roundw
            case rel =>
              refine ⟨k + 1, some q, cap', by go_num, by omega, by rw [Ha.out, hp.out]; rw [Bool.or_false], ?_, ?_⟩
              · rw [Hm.out, Hq.out]; exact Lib.hid HA2.out.1
              · rw [Hm.out, Hq.out]; exact Lib.hid HA2.out.2
            case measure => simp [intOf]; omega
        · have hd : decide ((k : Int) < (x.mn : Int)) = false := by simpa using hlt
          obtain rfl : k = x.mn := by omega
          have Hall : Hid (V.mem.take x.mn = V.mem) := Lib.hid (List.take_of_length_le (by omega))
          rw [Hall.out] at HC ⊢
          rw [Hany.out]
          clear HO
          cases hrb : readyB V node I with
          | true =>
            have Hmv := Lib.hid (Hmap.out hrb)
            rw [Hmv.out] at HC
            have Hj := Lib.hid hrb
            clear hrb v0 v1 v2 v3 v4
            obtain ⟨v0, v1, v2, v3, v4⟩ := HC.out.box.cells
            obtain ⟨c0, c1, c2, c3, c4⟩ := HC.out.cp.cells
            obtain ⟨r0, r1, r2, r3, r4⟩ := HC.out.res.cells
            have f0 := HC.out.res.free 0
            have f1 := HC.out.res.free 1
            have f2 := HC.out.res.free 2
            have f3 := HC.out.res.free 3
            have f4 := HC.out.res.free 4
            go_wp2
            clear v0 v1 v2 v3 v4 c0 c1 c2 c3 c4 r0 r1 r2 r3 r4 f0 f1 f2 f3 f4
            obtain ⟨s0, s1, s2, s3, s4⟩ := (setV_box HC.out.res { x with mA := B, mn := x.mn, mc := bc }).cells
            exact bodyPost_ret (v := .tuple #[vV { x with mA := B, mn := x.mn, mc := bc }, .bool true]) (by simp [results, Try.results28, go_sem, s0, s1, s2, s3, s4]) rfl ⟨_, by rw [Hj.out], HC.out.tell.1, HC.out.tell.2.1, HC.out.tell.2.2⟩
          | false =>
            have Hj := Lib.hid hrb
            have Hjv := Lib.hid (ready_not Hj.out)
            clear hrb
            obtain ⟨r0, r1, r2, r3, r4⟩ := HC.out.res.cells
            have f0 := HC.out.res.free 0
            have f1 := HC.out.res.free 1
            have f2 := HC.out.res.free 2
            have f3 := HC.out.res.free 3
            have f4 := HC.out.res.free 4
            go_wp2
            clear v0 v1 v2 v3 v4 r0 r1 r2 r3 r4 f0 f1 f2 f3 f4
            obtain ⟨s0, s1, s2, s3, s4⟩ := (setV_box HC.out.res x).cells
            have HBe : Hid (Below w.heap.size w (setV wr (b + 1) x)) := Lib.hid (by rw [Hb.out]; exact (setV_mod _ _ _).below HC.out.below (Nat.le_of_lt HC.out.box.lt) (fun i e => by rw [show i = b + 1 from e]; omega))
            exact bodyPost_ret (v := .tuple #[vV x, .bool false]) (by simp [results, Try.results28, go_sem, s0, s1, s2, s3, s4]) rfl ⟨x, by rw [Hj.out], by rw [Hjv.out]; exact Hh.out.below HBe.out, HBe.out, Far.refl _ _⟩
    · have Hj : Hid (readyB V node inc = false) := Lib.hid (Bool.eq_false_iff.2 fun h => hII (by rw [← HI.out]; exact (ready_no h).2.2))
      have q3 : (I != inc) = true := by simpa using hII
      have Hjv := Lib.hid (ready_not Hj.out)
      try clear v0 v1 v2 v3 v4
      obtain ⟨v0, v1, v2, v3, v4⟩ := HA4.out.cells
      obtain ⟨r0, r1, r2, r3, r4⟩ := HR4.out.cells
      have f0 := HR4.out.free 0
      have f1 := HR4.out.free 1
      have f2 := HR4.out.free 2
      have f3 := HR4.out.free 3
      have f4 := HR4.out.free 4
      go_wp2
      clear v0 v1 v2 v3 v4 r0 r1 r2 r3 r4 f0 f1 f2 f3 f4
      obtain ⟨s0, s1, s2, s3, s4⟩ := (setV_box HR4.out x).cells
      have HBe : Hid (Below w.heap.size w (setV w4 (b + 1) x)) := Lib.hid (by rw [Hb.out]; exact (setV_mod _ _ _).below HB4.out (Nat.le_of_lt HA4.out.lt) (fun i e => by rw [show i = b + 1 from e]; omega))
      exact bodyPost_ret (v := .tuple #[vV x, .bool false]) (by simp [results, Try.results28, go_sem, s0, s1, s2, s3, s4]) rfl ⟨x, by rw [Hj.out], by rw [Hjv.out]; exact Hh.out.below HBe.out, HBe.out, Far.refl _ _⟩
  · have Hj : Hid (readyB V node inc = false) := Lib.hid (Bool.eq_false_iff.2 fun h => hyes ⟨(ready_no h).1, (ready_no h).2.1⟩)
    have Hjv := Lib.hid (ready_not Hj.out)
    by_cases hok : Ok V
    · have q1 : (chkE V != 0) = false := by rw [chkE_ok hok]; rfl
      have q2 : inc < 1 := by
        refine Classical.byContradiction fun h => hyes ⟨hok, by omega⟩
      clear hyes hok
      try clear v0 v1 v2 v3 v4
      obtain ⟨v0, v1, v2, v3, v4⟩ := HA3.out.cells
      obtain ⟨r0, r1, r2, r3, r4⟩ := HR3.out.cells
      have f0 := HR3.out.free 0
      have f1 := HR3.out.free 1
      have f2 := HR3.out.free 2
      have f3 := HR3.out.free 3
      have f4 := HR3.out.free 4
      go_wp2
      clear v0 v1 v2 v3 v4 r0 r1 r2 r3 r4 f0 f1 f2 f3 f4
      obtain ⟨s0, s1, s2, s3, s4⟩ := (setV_box HR3.out x).cells
      have HBe : Hid (Below w.heap.size w (setV w3 (b + 1) x)) := Lib.hid (by rw [Hb.out]; exact (setV_mod _ _ _).below HB3.out (Nat.le_of_lt HA3.out.lt) (fun i e => by rw [show i = b + 1 from e]; omega))
      exact bodyPost_ret (v := .tuple #[vV x, .bool false]) (by simp [results, Try.results28, go_sem, s0, s1, s2, s3, s4]) rfl ⟨x, by rw [Hj.out], by rw [Hjv.out]; exact Hh.out.below HBe.out, HBe.out, Far.refl _ _⟩
    · have q1 : (chkE V != 0) = true := by rw [chk_no hok]; rfl
      clear hyes hok
      try clear v0 v1 v2 v3 v4
      obtain ⟨v0, v1, v2, v3, v4⟩ := HA3.out.cells
      obtain ⟨r0, r1, r2, r3, r4⟩ := HR3.out.cells
      have f0 := HR3.out.free 0
      have f1 := HR3.out.free 1
      have f2 := HR3.out.free 2
      have f3 := HR3.out.free 3
      have f4 := HR3.out.free 4
      go_wp2
      clear v0 v1 v2 v3 v4 r0 r1 r2 r3 r4 f0 f1 f2 f3 f4
      obtain ⟨s0, s1, s2, s3, s4⟩ := (setV_box HR3.out x).cells
      have HBe : Hid (Below w.heap.size w (setV w3 (b + 1) x)) := Lib.hid (by rw [Hb.out]; exact (setV_mod _ _ _).below HB3.out (Nat.le_of_lt HA3.out.lt) (fun i e => by rw [show i = b + 1 from e]; omega))
      exact bodyPost_ret (v := .tuple #[vV x, .bool false]) (by simp [results, Try.results28, go_sem, s0, s1, s2, s3, s4]) rfl ⟨x, by rw [Hj.out], by rw [Hjv.out]; exact Hh.out.below HBe.out, HBe.out, Far.refl _ _⟩
end Go.Proofs.Ytfdbkmncgngkjaa
