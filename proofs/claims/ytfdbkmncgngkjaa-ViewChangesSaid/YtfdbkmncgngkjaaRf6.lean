/- The document's Join. -/
import Derived.Test.YtfdbkmncgngkjaaRe06
namespace Go.Proofs.Ytfdbkmncgngkjaa
open Go.RowKit

theorem infoJ : (Try.prog.info? 3).map (fun i => (i.zero, i.size, i.bytes)) = some (some (.int .i64 0), 1, 8) := by kernel_rfl
theorem own_isI {w : World} {B g n c : Nat} {l : List Int} (h : w.ownsRow B 3 1 (.slice (some ⟨g, 0, none⟩) n c) n (ics l)) : IsI w (some ⟨g, 0, none⟩) n c l := by
  have hl : l.length = n := by have := h.1; simpa [ics] using this
  have hh := h.2
  rcases hh with ⟨e, _⟩ | ⟨g', cap, cur, e, hb, hg, h1, h2, h3, h4⟩
  · cases e
  · have ec : c = cap := by injection e
    have eg : g = g' := by injection e with e; injection e with e; injection e
    subst ec eg
    refine ⟨hl, h1, h2, fun _ => ⟨g, 0, rfl, (Array.getElem?_eq_some_iff.1 hg).1, fun i z hz => ?_⟩, fun e => by cases e⟩
    have := World.ownsRow.cells h (g := g) rfl i (.int .i64 z) (by simp [ics, hz])
    rwa [Go.WideShapes.add_plain] at this
theorem app_incs {w : World} {A : Option Addr} {n c : Nat} {l : List Int} (h : IsI w A n c l) (h0 : 0 < n) (hs : n ≤ 100000) :
    ∃ g o c' w', (Builtin.append_ #[23, 23] 23 #[.slice none 0 0, .slice A n c]).run Try.prog w = .ok (.slice (some ⟨g, o, none⟩) n c') w' ∧ RowI w' (some ⟨g, o, none⟩) n c' l ∧ Below w.heap.size w w' ∧ w.heap.size ≤ g := by
  obtain ⟨v', w', hr, hrow, hm, hb⟩ := appIs (row_nil w 1) h (by omega)
  rw [Nat.zero_add, List.nil_append] at hrow
  have hB : Below w.heap.size w w' := hm.below (Below.refl _ _) (Nat.le_refl _) (fun g hg => by cases hg)
  have hh := hrow
  rcases hrow.is with ⟨_, e⟩ | ⟨g, o, c', e, _⟩
  · omega
  · subst e
    refine ⟨g, o, c', w', hr, hh, hB, ?_⟩
    rcases hb with e | ⟨g', e, hg⟩
    · cases e
    · have : g = g' := by simpa [blk] using e
      omega
section
variable {w0 w w1 : World} {b g : Nat} {x y : Vx} {V V' : Vw}
theorem Cp.incs0 (h : Cp w0 w b g x y V V') : Cp w0 (w.setCell ⟨g, 4, none⟩ (.slice none 0 0)) b g x { y with iA := none, ir := 0, ic := 0 } V { V' with incs := [] } := by
  have e : Mod (· = g) w (w.setCell ⟨g, 4, none⟩ (.slice none 0 0)) := mod_cell w ⟨g, 4, none⟩ _
  have hgb := h.gb
  exact ⟨h.size, h.org0, h.box.kept e (by omega), h.res.kept e (by omega), h.cp.put 4 _ _ rfl, ⟨h.isV.nodes, h.isV.epoch, h.isV.mem.kept e (fun hn i hi => (h.awM hn i hi).1), h.isV.dead.kept e (fun hn i hi => (h.awD hn i hi).1), ⟨rfl, Nat.le_refl _, Nat.zero_le _, fun h => absurd h (Nat.lt_irrefl _), fun _ => rfl⟩⟩, h.awM, h.awD, fun h => absurd h (Nat.lt_irrefl _), e.below h.below (Nat.le_of_lt h.box.lt) (fun i hi => by rw [show i = g from hi]; omega), h.gb, ⟨h.far.mem, h.far.dead, fun _ h => absurd h (Nat.lt_irrefl _)⟩⟩
theorem Cp.at4 (h : Cp w0 w b g x y V V') (A : Option Addr) (n c : Nat) : BoxV (w.setCell ⟨g, 4, none⟩ (.slice A n c)) g { y with iA := A, ir := n, ic := c } := h.cp.put 4 _ _ rfl
theorem Cp.row4 (h : Cp w0 w b g x y V V') {g' o n c : Nat} {l : List Int} (hg : w.heap.size ≤ g') (r : RowI w1 (some ⟨g', o, none⟩) n c l) :
    RowI (w1.setCell ⟨g, 4, none⟩ (.slice (some ⟨g', o, none⟩) n c)) (some ⟨g', o, none⟩) n c l := by
  have e1 : Mod (· = g) w1 (w1.setCell ⟨g, 4, none⟩ (.slice (some ⟨g', o, none⟩) n c)) := mod_cell w1 ⟨g, 4, none⟩ _
  have hcl := h.cp.lt
  exact r.later e1 (fun i hi e => by
    have e3 : g' = i := by simpa [blk] using hi
    have e4 : i = g := e
    omega)
theorem Cp.incs (h : Cp w0 w b g x y V V') (m : Below w.heap.size w w1) {g' o n c j : Nat} {l : List Int} {z : Int} (hg : w.heap.size ≤ g') (r : RowI w1 (some ⟨g', o, none⟩) n c l) (hj : j < n) :
    Cp w0 ((w1.setCell ⟨g, 4, none⟩ (.slice (some ⟨g', o, none⟩) n c)).setCell ⟨g', o + j, none⟩ (.int .i64 z)) b g x { y with iA := some ⟨g', o, none⟩, ir := n, ic := c } V { V' with incs := l.set j z } := by
  have k1 := h.to m
  have h4 : BoxV (w1.setCell ⟨g, 4, none⟩ (.slice (some ⟨g', o, none⟩) n c)) g { y with iA := some ⟨g', o, none⟩, ir := n, ic := c } := k1.at4 _ _ _
  have e1 : Mod (· = g) w1 (w1.setCell ⟨g, 4, none⟩ (.slice (some ⟨g', o, none⟩) n c)) := mod_cell w1 ⟨g, 4, none⟩ _
  have e2 : Mod (· = g') (w1.setCell ⟨g, 4, none⟩ (.slice (some ⟨g', o, none⟩) n c)) ((w1.setCell ⟨g, 4, none⟩ (.slice (some ⟨g', o, none⟩) n c)).setCell ⟨g', o + j, none⟩ (.int .i64 z)) := mod_cell _ ⟨g', o + j, none⟩ _
  have r2 := (h.row4 hg r).set (j := j) (by omega) (.int .i64 z)
  rw [ics_set] at r2
  have hgb := h.gb
  have hcl := h.cp.lt
  have hrl := h.res.lt
  have hbl := h.box.lt
  have lo {A : Option Addr} {n c : Nat} {l : List Mb} (q : IsL w A n c l) (h0 : 0 < n) : ∀ i, blk (.slice A n c) = some i → i ≠ g' := fun i hi => by have := q.lowB h0 i hi; omega
  refine ⟨h.size, h.org0, (k1.box.kept e1 (by omega)).kept e2 (by omega), (k1.res.kept e1 (by omega)).kept e2 (by omega), h4.kept e2 (by omega),
    ⟨h.isV.nodes, h.isV.epoch, (k1.isV.mem.kept e1 (fun hn i hi => (h.awM hn i hi).1)).kept e2 (fun hn i hi => lo h.isV.mem hn i hi), (k1.isV.dead.kept e1 (fun hn i hi => (h.awD hn i hi).1)).kept e2 (fun hn i hi => lo h.isV.dead hn i hi), RowI.isI r2⟩, h.awM, h.awD, fun _ i hi => ?_, ?_, h.gb, ⟨h.far.mem, h.far.dead, FarS.new (fun i hi => by
      have e3 : g' = i := by simpa [blk] using hi
      omega)⟩⟩
  · have e3 : g' = i := by simpa [blk] using hi
    exact ⟨by omega, by omega⟩
  · have hs1 : w1.heap.size = (w1.setCell ⟨g, 4, none⟩ (.slice (some ⟨g', o, none⟩) n c)).heap.size := by simp [World.setCell]
    have hb1 := k1.box.lt
    exact e2.below (e1.below k1.below (Nat.le_of_lt k1.box.lt) (fun i hi => by rw [show i = g from hi]; omega)) (by omega) (fun i hi => by rw [show i = g' from hi]; omega)
end
theorem join_no {V : Vw} {node : Int} (h : joinOk V node = false) : joinV V node = V ∧ joinN V node = 0 := by
  unfold joinV joinN
  rw [h]
  exact ⟨rfl, rfl⟩
set_option maxRecDepth 100000 in
set_option maxHeartbeats 4000000 in
theorem RJoin_any (w : World) (x : Vx) (V : Vw) (h : IsV w x V) (hs : V.mem.length ≤ 1000) (hd : V.dead.length ≤ 1000) (node : Int) :
    Calls Try.prog 24 #[vV x, .int .i64 node] w fun e w' => ∃ x', e = .returned (.tuple #[vV x', .int .i64 (joinN V node)]) ∧ IsV w' x' (joinV V node) ∧ Below w.heap.size w w' ∧ Far w.heap.size x x' := by
  have hml := h.mem.length
  have hdl := h.dead.length
  have hil := h.incs.length
  have hnn := h.nodes.symm
  have hee := h.epoch.symm
  go_enter Try.func24, Try.ntmps24
  go_upto_region 1 with (fail)
  obtain ⟨w1, Hw1⟩ : ∃ w1, Hid ((w.alloc (.cells (vC x) 25)).alloc (.cells (vC noVx) 25) = w1) := ⟨_, Lib.hid rfl⟩
  obtain ⟨b, Hb⟩ : ∃ b, Hid (w.heap.size = b) := ⟨_, Lib.hid rfl⟩
  have HA : Hid (BoxV w1 b x) := Lib.hid (by rw [← Hw1.out, ← Hb.out]; exact (BoxV.new w x).below ((Below.refl _ _).alloc (Nat.le_refl _) _))
  have HR : Hid (BoxV w1 (b + 1) noVx) := Lib.hid (by
    have := BoxV.new (w.alloc (.cells (vC x) 25)) noVx
    rw [Hw1.out] at this
    simpa [Hb.out] using this)
  have HB1 : Hid (Below b w w1) := Lib.hid (by rw [← Hb.out, ← Hw1.out]; exact balloc ((Below.refl _ _).alloc (Nat.le_refl _) _) _)
  have HV1 : Hid (IsV w1 x V) := Lib.hid (h.below (by rw [Hb.out]; exact HB1.out))
  have Hh := Lib.hid h
  clear h
  rw [show ((w.alloc (.cells #[.int .i64 x.nodes, .int .i64 x.epoch, .slice x.mA x.mn x.mc, .slice x.dA x.dn x.dc, .slice x.iA x.ir x.ic] 25)).alloc (.cells #[.int .i64 0, .int .i64 0, .slice none 0 0, .slice none 0 0, .slice none 0 0] 25)) = w1 from Hw1.out, Hb.out]
  obtain ⟨v0, v1, v2, v3, v4⟩ := HA.out.cells
  go_wp2_with fail
  refine (RCheck_any w1 x V HV1.out hs).mono ?_
  rintro e w4 ⟨rfl, b4⟩
  have HB4 : Hid (Below b w w4) := Lib.hid (HB1.out.trans (b4.mono (Nat.le_of_lt HA.out.lt)))
  have HA4 := Lib.hid (HA.out.below b4)
  have HR4 := Lib.hid (HR.out.below b4)
  have HV4 := Lib.hid (HV1.out.below b4)
  clear b4 v0 v1 v2 v3 v4
  by_cases hok : Ok V
  case neg =>
    have q1 : (chkE V != 0) = true := by rw [chk_no hok]; rfl
    have Hj : Hid (joinOk V node = false) := Lib.hid (by
      cases hj : joinOk V node with
      | false => rfl
      | true => exact absurd (joinOk_parts hj).1 hok)
    have Hjn := Lib.hid (join_no Hj.out)
    obtain ⟨v0, v1, v2, v3, v4⟩ := HA4.out.cells
    obtain ⟨r0, r1, r2, r3, r4⟩ := HR4.out.cells
    have f0 := HR4.out.free 0
    have f1 := HR4.out.free 1
    have f2 := HR4.out.free 2
    have f3 := HR4.out.free 3
    have f4 := HR4.out.free 4
    go_wp2
    clear v0 v1 v2 v3 v4 r0 r1 r2 r3 r4 f0 f1 f2 f3 f4
    obtain ⟨s0, s1, s2, s3, s4⟩ := (setV_box HR4.out x).cells
    have HBe : Hid (Below w.heap.size w (setV w4 (b + 1) x)) := Lib.hid (by rw [Hb.out]; exact (setV_mod _ _ _).below HB4.out (Nat.le_of_lt HA4.out.lt) (fun i e => by rw [show i = b + 1 from e]; omega))
    exact bodyPost_ret (v := .tuple #[vV x, .int .i64 0]) (by simp [results, Try.results24, go_sem, s0, s1, s2, s3, s4]) rfl ⟨x, by rw [Hjn.out.2], by rw [Hjn.out.1]; exact Hh.out.below HBe.out, HBe.out, Far.refl _ _⟩
  case pos =>
    have q1 : (chkE V != 0) = false := by rw [chkE_ok hok]; rfl
    have HOk := Lib.hid hok
    have e0 := hok.e0
    have e1 := hok.e1
    have n1 := hok.n1
    have n8 := hok.n8
    have len := hok.len
    by_cases a1 : node < 0
    · have Hj : Hid (joinOk V node = false) := Lib.hid (by
        cases hj : joinOk V node with
        | false => rfl
        | true => have := joinOk_parts hj; omega)
      have Hjn := Lib.hid (join_no Hj.out)
      clear hok e0 e1 n1 n8 len
      obtain ⟨v0, v1, v2, v3, v4⟩ := HA4.out.cells
      obtain ⟨r0, r1, r2, r3, r4⟩ := HR4.out.cells
      have f0 := HR4.out.free 0
      have f1 := HR4.out.free 1
      have f2 := HR4.out.free 2
      have f3 := HR4.out.free 3
      have f4 := HR4.out.free 4
      go_wp2
      clear v0 v1 v2 v3 v4 r0 r1 r2 r3 r4 f0 f1 f2 f3 f4
      obtain ⟨s0, s1, s2, s3, s4⟩ := (setV_box HR4.out x).cells
      have HBe : Hid (Below w.heap.size w (setV w4 (b + 1) x)) := Lib.hid (by rw [Hb.out]; exact (setV_mod _ _ _).below HB4.out (Nat.le_of_lt HA4.out.lt) (fun i e => by rw [show i = b + 1 from e]; omega))
      exact bodyPost_ret (v := .tuple #[vV x, .int .i64 0]) (by simp [results, Try.results24, go_sem, s0, s1, s2, s3, s4]) rfl ⟨x, by rw [Hjn.out.2], by rw [Hjn.out.1]; exact Hh.out.below HBe.out, HBe.out, Far.refl _ _⟩
    · by_cases a2 : x.nodes ≤ node
      · have Hj : Hid (joinOk V node = false) := Lib.hid (by
          cases hj : joinOk V node with
          | false => rfl
          | true => have := joinOk_parts hj; omega)
        have Hjn := Lib.hid (join_no Hj.out)
        clear hok e0 e1 n1 n8 len
        obtain ⟨v0, v1, v2, v3, v4⟩ := HA4.out.cells
        obtain ⟨r0, r1, r2, r3, r4⟩ := HR4.out.cells
        have f0 := HR4.out.free 0
        have f1 := HR4.out.free 1
        have f2 := HR4.out.free 2
        have f3 := HR4.out.free 3
        have f4 := HR4.out.free 4
        go_wp2
        clear v0 v1 v2 v3 v4 r0 r1 r2 r3 r4 f0 f1 f2 f3 f4
        obtain ⟨s0, s1, s2, s3, s4⟩ := (setV_box HR4.out x).cells
        have HBe : Hid (Below w.heap.size w (setV w4 (b + 1) x)) := Lib.hid (by rw [Hb.out]; exact (setV_mod _ _ _).below HB4.out (Nat.le_of_lt HA4.out.lt) (fun i e => by rw [show i = b + 1 from e]; omega))
        exact bodyPost_ret (v := .tuple #[vV x, .int .i64 0]) (by simp [results, Try.results24, go_sem, s0, s1, s2, s3, s4]) rfl ⟨x, by rw [Hjn.out.2], by rw [Hjn.out.1]; exact Hh.out.below HBe.out, HBe.out, Far.refl _ _⟩
      · obtain ⟨j, rfl⟩ : ∃ j : Nat, node = (j : Int) := ⟨node.toNat, by omega⟩
        have hji : j < x.ir := by omega
        have hji' : (j : Int) < (x.ir : Int) := by omega
        obtain ⟨gi, oi, ei, hgi, hci⟩ := HV4.out.incs.cells (by omega)
        obtain ⟨z, hz⟩ : ∃ z, V.incs[j]? = some z := ⟨_, List.getElem?_eq_getElem (by omega)⟩
        have hcz := hci j z hz
        have HZ := Lib.hid hz
        have ez : incAt V (j : Int) = z := by rw [incAt, Int.toNat_natCast, List.getD_eq_getElem?_getD, hz]; rfl
        have zz := hok.inc z (List.mem_of_getElem? hz)
        obtain ⟨z0, z1⟩ := zz
        have HEz := Lib.hid ez
        have Hei := Lib.hid ei
        have hjk : joinOk V (j : Int) = (decide (V.epoch < 1099511627776) && decide (V.dead.length < 20) && decide (z < 1099511627776)) := by
          unfold joinOk turnsB
          rw [(ok_iff V).2 hok, ez]
          have : thereB V (j : Int) = true := by simp [thereB]; omega
          rw [this]
          simp
        by_cases a3 : 1099511627776 ≤ z
        · have Hj : Hid (joinOk V (j : Int) = false) := Lib.hid (by rw [hjk]; simp; omega)
          have Hjn := Lib.hid (join_no Hj.out)
          clear hok e0 e1 n1 n8 len hci hz ez hjk ei
          obtain ⟨v0, v1, v2, v3, v4⟩ := HA4.out.cells
          rw [Hei.out] at v4
          obtain ⟨r0, r1, r2, r3, r4⟩ := HR4.out.cells
          have f0 := HR4.out.free 0
          have f1 := HR4.out.free 1
          have f2 := HR4.out.free 2
          have f3 := HR4.out.free 3
          have f4 := HR4.out.free 4
          go_wp2
          clear v0 v1 v2 v3 v4 r0 r1 r2 r3 r4 f0 f1 f2 f3 f4
          try rw [← Hei.out]
          obtain ⟨s0, s1, s2, s3, s4⟩ := (setV_box HR4.out x).cells
          have HBe : Hid (Below w.heap.size w (setV w4 (b + 1) x)) := Lib.hid (by rw [Hb.out]; exact (setV_mod _ _ _).below HB4.out (Nat.le_of_lt HA4.out.lt) (fun i e => by rw [show i = b + 1 from e]; omega))
          exact bodyPost_ret (v := .tuple #[vV x, .int .i64 0]) (by simp [results, Try.results24, go_sem, s0, s1, s2, s3, s4]) rfl ⟨x, by rw [Hjn.out.2], by rw [Hjn.out.1]; exact Hh.out.below HBe.out, HBe.out, Far.refl _ _⟩
        · by_cases a4 : 1099511627776 ≤ x.epoch
          · have Hj : Hid (joinOk V (j : Int) = false) := Lib.hid (by rw [hjk]; simp; omega)
            have Hjn := Lib.hid (join_no Hj.out)
            clear hok e0 e1 n1 n8 len hci hz ez hjk ei
            obtain ⟨v0, v1, v2, v3, v4⟩ := HA4.out.cells
            rw [Hei.out] at v4
            obtain ⟨r0, r1, r2, r3, r4⟩ := HR4.out.cells
            have f0 := HR4.out.free 0
            have f1 := HR4.out.free 1
            have f2 := HR4.out.free 2
            have f3 := HR4.out.free 3
            have f4 := HR4.out.free 4
            go_wp2
            clear v0 v1 v2 v3 v4 r0 r1 r2 r3 r4 f0 f1 f2 f3 f4
            try rw [← Hei.out]
            obtain ⟨s0, s1, s2, s3, s4⟩ := (setV_box HR4.out x).cells
            have HBe : Hid (Below w.heap.size w (setV w4 (b + 1) x)) := Lib.hid (by rw [Hb.out]; exact (setV_mod _ _ _).below HB4.out (Nat.le_of_lt HA4.out.lt) (fun i e => by rw [show i = b + 1 from e]; omega))
            exact bodyPost_ret (v := .tuple #[vV x, .int .i64 0]) (by simp [results, Try.results24, go_sem, s0, s1, s2, s3, s4]) rfl ⟨x, by rw [Hjn.out.2], by rw [Hjn.out.1]; exact Hh.out.below HBe.out, HBe.out, Far.refl _ _⟩
          · by_cases a5 : (20 : Int) ≤ (x.dn : Int)
            · have Hj : Hid (joinOk V (j : Int) = false) := Lib.hid (by rw [hjk]; simp; omega)
              have Hjn := Lib.hid (join_no Hj.out)
              clear hok e0 e1 n1 n8 len hci hz ez hjk ei
              obtain ⟨v0, v1, v2, v3, v4⟩ := HA4.out.cells
              rw [Hei.out] at v4
              obtain ⟨r0, r1, r2, r3, r4⟩ := HR4.out.cells
              have f0 := HR4.out.free 0
              have f1 := HR4.out.free 1
              have f2 := HR4.out.free 2
              have f3 := HR4.out.free 3
              have f4 := HR4.out.free 4
              go_wp2
              clear v0 v1 v2 v3 v4 r0 r1 r2 r3 r4 f0 f1 f2 f3 f4
              try rw [← Hei.out]
              obtain ⟨s0, s1, s2, s3, s4⟩ := (setV_box HR4.out x).cells
              have HBe : Hid (Below w.heap.size w (setV w4 (b + 1) x)) := Lib.hid (by rw [Hb.out]; exact (setV_mod _ _ _).below HB4.out (Nat.le_of_lt HA4.out.lt) (fun i e => by rw [show i = b + 1 from e]; omega))
              exact bodyPost_ret (v := .tuple #[vV x, .int .i64 0]) (by simp [results, Try.results24, go_sem, s0, s1, s2, s3, s4]) rfl ⟨x, by rw [Hjn.out.2], by rw [Hjn.out.1]; exact Hh.out.below HBe.out, HBe.out, Far.refl _ _⟩
            · have Hj : Hid (joinOk V (j : Int) = true) := Lib.hid (by rw [hjk]; simp; omega)
              have ee0 : 0 ≤ x.epoch := by omega
              have ee1 : x.epoch < 1099511627776 := by omega
              have Hjn : Hid (joinN V (j : Int) = z + 1) := Lib.hid (by unfold joinN; rw [Hj.out, HEz.out]; rfl)
              have Hjv := Lib.hid (join_eq hok (j : Int))
              have hir : x.ir ≤ 100000 := by omega
              clear hok e0 e1 n1 n8 len hci hz ez hjk ei
              obtain ⟨I, HI⟩ : ∃ I, Hid (incOf V (j : Int) = I) := ⟨_, Lib.hid rfl⟩
              have zb1 : z < 1099511627776 := by omega
              obtain ⟨v0, v1, v2, v3, v4⟩ := HA4.out.cells
              rw [Hei.out] at v4
              go_upto_region 4 with (fail)
              clear v0 v1 v2 v3 v4 hcz hgi
              obtain ⟨g, Hg⟩ : ∃ g, Hid (w4.heap.size = g) := ⟨_, Lib.hid rfl⟩
              obtain ⟨w5, Hw5⟩ : ∃ u, Hid (w4.alloc (.cells (vC x) 25) = u) := ⟨_, Lib.hid rfl⟩
              have C5 : Hid (Cp w w5 b g x x V V) := Lib.hid (by rw [← Hw5.out, ← Hg.out]; exact Cp.start Hb.out Hh.out HA4.out HR4.out HB4.out)
              have hvc : vC x = #[.int .i64 x.nodes, .int .i64 x.epoch, .slice x.mA x.mn x.mc, .slice x.dA x.dn x.dc, .slice (some ⟨gi, oi, none⟩) x.ir x.ic] := by rw [← Hei.out]
              rw [hvc] at Hw5
              clear hvc
              rw [Hw5.out, Hg.out]
              obtain ⟨v0, v1, v2, v3, v4⟩ := C5.out.box.cells
              go_wp2_with fail
              refine (RInc_any w5 x V C5.out.org (j : Int)).mono ?_
              rw [HI.out]
              rintro e w6 ⟨rfl, b6⟩
              have C6 := Lib.hid (C5.out.to b6)
              clear b6 v0 v1 v2 v3 v4
              obtain ⟨v0, v1, v2, v3, v4⟩ := C6.out.box.cells
              by_cases hI : 0 < I
              · have q9 : decide (0 < I) = true := by simpa using hI
                have HIf : Hid ((if I > 0 then putR V.dead ((j : Int), I, false) else V.dead) = putR V.dead ((j : Int), I, false)) := Lib.hid (if_pos hI)
                go_wp2_with fail
                refine (put_r_any w6 x.dA x.dn x.dc V.dead C6.out.org.dead hd ((j : Int), I, false)).mono ?_
                rintro e w8 ⟨A8, n8, c8, rfl, O8, b8⟩
                have CD' := Lib.hid (C6.out.dead b8 O8)
                have g3 := (C6.out.to b8).cp.cells.2.2.2.1
                have gf := (C6.out.to b8).cp.free 3
                clear O8 b8 v0 v1 v2 v3 v4
                go_upto_region 7 with (fail)
                clear g3 gf
                obtain ⟨wD, HwD⟩ : ∃ u, Hid (w8.setCell ⟨g, 3, none⟩ (.slice A8 n8 c8) = u) := ⟨_, Lib.hid rfl⟩
                rw [HwD.out] at CD' ⊢
                obtain ⟨yD, HyD⟩ : ∃ y, Hid (({ x with dA := A8, dn := n8, dc := c8 } : Vx) = y) := ⟨_, Lib.hid rfl⟩
                rw [HyD.out] at CD'
                have CD : Hid (Cp w wD b g x yD V { V with dead := if I > 0 then putR V.dead ((j : Int), I, false) else V.dead }) := Lib.hid (by rw [HIf.out]; exact CD'.out)
                clear CD'
                have hcz : wD.cell? ⟨gi, oi + j, none⟩ = some (.int .i64 z) := by
                  obtain ⟨g2, o2, e2, _, h2⟩ := CD.out.org.incs.cells (by omega)
                  rw [Hei.out] at e2
                  cases e2
                  exact h2 j z HZ.out
                obtain ⟨v0, v1, v2, v3, v4⟩ := CD.out.box.cells
                rw [Hei.out] at v4
                go_upto_region 8 with (fail)
                clear hcz
                go_wp2_with fail
                refine (without_any wD x.mA x.mn x.mc V.mem CD.out.org.mem hs (j : Int) 0).mono ?_
                rintro e u6 ⟨A6, n6, c6, rfl, O6, b6⟩
                have HO6 := Lib.hid O6
                have Hl6 : Hid ((V.mem.filter (pWo (j : Int) 0)).length ≤ 1000) := Lib.hid (by have := List.length_filter_le (pWo (j : Int) 0) V.mem; omega)
                have D6 := Lib.hid (CD.out.to b6)
                clear O6 b6 v0 v1 v2 v3 v4
                go_wp2_with fail
                refine (unready_any u6 A6 n6 c6 _ HO6.out.isL Hl6.out).mono ?_
                rintro e u7 ⟨A7, n7, c7, rfl, O7, b7⟩
                have HO7 := Lib.hid O7
                have Hl7 : Hid (((V.mem.filter (pWo (j : Int) 0)).map unr).length ≤ 1000) := Lib.hid (by rw [List.length_map]; exact Hl6.out)
                have D7 := Lib.hid (D6.out.to b7)
                clear O7 b7
                go_wp2_with fail
                refine (put_r_any u7 A7 n7 c7 _ HO7.out.isL Hl7.out ((j : Int), z + 1, false)).mono ?_
                rintro e u9 ⟨A9, n9, c9, rfl, O9, b9⟩
                have D9 := Lib.hid (D7.out.mem b9 O9)
                have g2 := (D7.out.to b9).cp.cells.2.2.1
                have gf := (D7.out.to b9).cp.free 2
                clear O9 b9
                go_upto_region 9 with (fail)
                clear g2 gf
                obtain ⟨u10, Hu10⟩ : ∃ u, Hid (u9.setCell ⟨g, 2, none⟩ (.slice A9 n9 c9) = u) := ⟨_, Lib.hid rfl⟩
                rw [Hu10.out] at D9 ⊢
                have D10 := Lib.hid D9.out.incs0
                have g4 := D9.out.cp.cells.2.2.2.2
                have gf := D9.out.cp.free 4
                go_upto_region 10 with (fail)
                clear g4 gf
                obtain ⟨u11, Hu11⟩ : ∃ u, Hid (u10.setCell ⟨g, 4, none⟩ (.slice none 0 0) = u) := ⟨_, Lib.hid rfl⟩
                rw [Hu11.out] at D10 ⊢
                obtain ⟨gn, on, cn, u12, hr, hrow, hbw, hgl⟩ := app_incs D10.out.org.incs (by omega) (by omega)
                have Hr := Lib.hid hr
                have Hrow := Lib.hid hrow
                have Hbw := Lib.hid hbw
                have Hgl := Lib.hid hgl
                clear hr hrow hbw hgl
                obtain ⟨v0, v1, v2, v3, v4⟩ := D10.out.box.cells
                have g4 := D10.out.cp.cells.2.2.2.2
                have g4b := (D10.out.to Hbw.out).cp.cells.2.2.2.2
                have gfb := (D10.out.to Hbw.out).cp.free 4
                go_upto_region 11 with (at_builtin; refine wpList_append_run rfl (.tmp 73) (.tmp 75) 23 rfl Hr.out ?_)
                clear v0 v1 v2 v3 v4 g4 g4b gfb
                have D13 := Lib.hid (D10.out.incs (j := j) (z := z + 1) Hbw.out Hgl.out Hrow.out (by omega))
                have k4 := ((D10.out.to Hbw.out).at4 (some ⟨gn, on, none⟩) x.ir cn).cells.2.2.2.2
                obtain ⟨_, n1, n2, n3, _, n5⟩ := Row.cells' (D10.out.row4 Hgl.out Hrow.out)
                have n4 := n3 j (.int .i64 z) (ics_get HZ.out)
                have n6 := n5 j (by omega)
                clear n3 n5
                obtain ⟨u13, Hu13⟩ : ∃ u, Hid (u12.setCell ⟨g, 4, none⟩ (.slice (some ⟨gn, on, none⟩) x.ir cn) = u) := ⟨_, Lib.hid rfl⟩
                rw [Hu13.out] at D13 k4 n4 n6 ⊢
                go_upto_region 12 with (fail)
                clear k4 n4 n6 n1 n2
                obtain ⟨u14, Hu14⟩ : ∃ u, Hid (u13.setCell ⟨gn, on + j, none⟩ (.int .i64 (z + 1)) = u) := ⟨_, Lib.hid rfl⟩
                rw [Hu14.out] at D13 ⊢
                obtain ⟨v0, v1, v2, v3, v4⟩ := D13.out.box.cells
                have D14 := Lib.hid (D13.out.epoch (x.epoch + 1))
                have g1 := D13.out.cp.cells.2.1
                have gf := D13.out.cp.free 1
                go_upto_region 13 with (fail)
                clear g1 gf v0 v1 v2 v3 v4
                obtain ⟨u15, Hu15⟩ : ∃ u, Hid (u14.setCell ⟨g, 1, none⟩ (.int .i64 (x.epoch + 1)) = u) := ⟨_, Lib.hid rfl⟩
                rw [Hu15.out] at D14 ⊢
                obtain ⟨y, Hy⟩ : ∃ y, Hid (({ yD with mA := A9, mn := n9, mc := c9, iA := some ⟨gn, on, none⟩, ir := x.ir, ic := cn, epoch := x.epoch + 1 } : Vx) = y) := ⟨_, Lib.hid rfl⟩
                have D15 : Hid (Cp w u15 b g x y V (joinD V (j : Int))) := Lib.hid (by
                  rw [← Hy.out]
                  have := D14.out
                  unfold joinD
                  rw [Hj.out, if_pos rfl, HEz.out, HI.out, hee, Int.toNat_natCast]
                  exact this)
                rw [Hjv.out] at D15
                clear D14
                obtain ⟨v0, v1, v2, v3, v4⟩ := D15.out.cp.cells
                obtain ⟨r0, r1, r2, r3, r4⟩ := D15.out.res.cells
                have f0 := D15.out.res.free 0
                have f1 := D15.out.res.free 1
                have f2 := D15.out.res.free 2
                have f3 := D15.out.res.free 3
                have f4 := D15.out.res.free 4
                go_wp2
                clear v0 v1 v2 v3 v4 r0 r1 r2 r3 r4 f0 f1 f2 f3 f4
                obtain ⟨s0, s1, s2, s3, s4⟩ := (setV_box D15.out.res y).cells
                exact bodyPost_ret (v := .tuple #[vV y, .int .i64 (z + 1)]) (by simp [results, Try.results24, go_sem, s0, s1, s2, s3, s4]) rfl ⟨y, by rw [Hjn.out], D15.out.tell.1, D15.out.tell.2.1, D15.out.tell.2.2⟩
              · have q9 : decide (0 < I) = false := by simpa using hI
                have CD : Hid (Cp w w6 b g x x V { V with dead := if I > 0 then putR V.dead ((j : Int), I, false) else V.dead }) := Lib.hid (by rw [if_neg hI]; exact C6.out)
                go_upto_region 7 with (fail)
                clear v0 v1 v2 v3 v4
                obtain ⟨yD, HyD⟩ : ∃ y, Hid (x = y) := ⟨_, Lib.hid rfl⟩
                have CD' : Hid (Cp w w6 b g x yD V { V with dead := if I > 0 then putR V.dead ((j : Int), I, false) else V.dead }) := Lib.hid (by rw [← HyD.out]; exact CD.out)
                clear CD
                have CD := CD'
                clear CD'
                obtain ⟨wD, HwD⟩ : ∃ u, Hid (w6 = u) := ⟨_, Lib.hid rfl⟩
                rw [HwD.out] at CD ⊢
                have hcz : wD.cell? ⟨gi, oi + j, none⟩ = some (.int .i64 z) := by
                  obtain ⟨g2, o2, e2, _, h2⟩ := CD.out.org.incs.cells (by omega)
                  rw [Hei.out] at e2
                  cases e2
                  exact h2 j z HZ.out
                obtain ⟨v0, v1, v2, v3, v4⟩ := CD.out.box.cells
                rw [Hei.out] at v4
                go_upto_region 8 with (fail)
                clear hcz
                go_wp2_with fail
                refine (without_any wD x.mA x.mn x.mc V.mem CD.out.org.mem hs (j : Int) 0).mono ?_
                rintro e u6 ⟨A6, n6, c6, rfl, O6, b6⟩
                have HO6 := Lib.hid O6
                have Hl6 : Hid ((V.mem.filter (pWo (j : Int) 0)).length ≤ 1000) := Lib.hid (by have := List.length_filter_le (pWo (j : Int) 0) V.mem; omega)
                have D6 := Lib.hid (CD.out.to b6)
                clear O6 b6 v0 v1 v2 v3 v4
                go_wp2_with fail
                refine (unready_any u6 A6 n6 c6 _ HO6.out.isL Hl6.out).mono ?_
                rintro e u7 ⟨A7, n7, c7, rfl, O7, b7⟩
                have HO7 := Lib.hid O7
                have Hl7 : Hid (((V.mem.filter (pWo (j : Int) 0)).map unr).length ≤ 1000) := Lib.hid (by rw [List.length_map]; exact Hl6.out)
                have D7 := Lib.hid (D6.out.to b7)
                clear O7 b7
                go_wp2_with fail
                refine (put_r_any u7 A7 n7 c7 _ HO7.out.isL Hl7.out ((j : Int), z + 1, false)).mono ?_
                rintro e u9 ⟨A9, n9, c9, rfl, O9, b9⟩
                have D9 := Lib.hid (D7.out.mem b9 O9)
                have g2 := (D7.out.to b9).cp.cells.2.2.1
                have gf := (D7.out.to b9).cp.free 2
                clear O9 b9
                go_upto_region 9 with (fail)
                clear g2 gf
                obtain ⟨u10, Hu10⟩ : ∃ u, Hid (u9.setCell ⟨g, 2, none⟩ (.slice A9 n9 c9) = u) := ⟨_, Lib.hid rfl⟩
                rw [Hu10.out] at D9 ⊢
                have D10 := Lib.hid D9.out.incs0
                have g4 := D9.out.cp.cells.2.2.2.2
                have gf := D9.out.cp.free 4
                go_upto_region 10 with (fail)
                clear g4 gf
                obtain ⟨u11, Hu11⟩ : ∃ u, Hid (u10.setCell ⟨g, 4, none⟩ (.slice none 0 0) = u) := ⟨_, Lib.hid rfl⟩
                rw [Hu11.out] at D10 ⊢
                obtain ⟨gn, on, cn, u12, hr, hrow, hbw, hgl⟩ := app_incs D10.out.org.incs (by omega) (by omega)
                have Hr := Lib.hid hr
                have Hrow := Lib.hid hrow
                have Hbw := Lib.hid hbw
                have Hgl := Lib.hid hgl
                clear hr hrow hbw hgl
                obtain ⟨v0, v1, v2, v3, v4⟩ := D10.out.box.cells
                have g4 := D10.out.cp.cells.2.2.2.2
                have g4b := (D10.out.to Hbw.out).cp.cells.2.2.2.2
                have gfb := (D10.out.to Hbw.out).cp.free 4
                go_upto_region 11 with (at_builtin; refine wpList_append_run rfl (.tmp 73) (.tmp 75) 23 rfl Hr.out ?_)
                clear v0 v1 v2 v3 v4 g4 g4b gfb
                have D13 := Lib.hid (D10.out.incs (j := j) (z := z + 1) Hbw.out Hgl.out Hrow.out (by omega))
                have k4 := ((D10.out.to Hbw.out).at4 (some ⟨gn, on, none⟩) x.ir cn).cells.2.2.2.2
                obtain ⟨_, n1, n2, n3, _, n5⟩ := Row.cells' (D10.out.row4 Hgl.out Hrow.out)
                have n4 := n3 j (.int .i64 z) (ics_get HZ.out)
                have n6 := n5 j (by omega)
                clear n3 n5
                obtain ⟨u13, Hu13⟩ : ∃ u, Hid (u12.setCell ⟨g, 4, none⟩ (.slice (some ⟨gn, on, none⟩) x.ir cn) = u) := ⟨_, Lib.hid rfl⟩
                rw [Hu13.out] at D13 k4 n4 n6 ⊢
                go_upto_region 12 with (fail)
                clear k4 n4 n6 n1 n2
                obtain ⟨u14, Hu14⟩ : ∃ u, Hid (u13.setCell ⟨gn, on + j, none⟩ (.int .i64 (z + 1)) = u) := ⟨_, Lib.hid rfl⟩
                rw [Hu14.out] at D13 ⊢
                obtain ⟨v0, v1, v2, v3, v4⟩ := D13.out.box.cells
                have D14 := Lib.hid (D13.out.epoch (x.epoch + 1))
                have g1 := D13.out.cp.cells.2.1
                have gf := D13.out.cp.free 1
                go_upto_region 13 with (fail)
                clear g1 gf v0 v1 v2 v3 v4
                obtain ⟨u15, Hu15⟩ : ∃ u, Hid (u14.setCell ⟨g, 1, none⟩ (.int .i64 (x.epoch + 1)) = u) := ⟨_, Lib.hid rfl⟩
                rw [Hu15.out] at D14 ⊢
                obtain ⟨y, Hy⟩ : ∃ y, Hid (({ yD with mA := A9, mn := n9, mc := c9, iA := some ⟨gn, on, none⟩, ir := x.ir, ic := cn, epoch := x.epoch + 1 } : Vx) = y) := ⟨_, Lib.hid rfl⟩
                have D15 : Hid (Cp w u15 b g x y V (joinD V (j : Int))) := Lib.hid (by
                  rw [← Hy.out]
                  have := D14.out
                  unfold joinD
                  rw [Hj.out, if_pos rfl, HEz.out, HI.out, hee, Int.toNat_natCast]
                  exact this)
                rw [Hjv.out] at D15
                clear D14
                obtain ⟨v0, v1, v2, v3, v4⟩ := D15.out.cp.cells
                obtain ⟨r0, r1, r2, r3, r4⟩ := D15.out.res.cells
                have f0 := D15.out.res.free 0
                have f1 := D15.out.res.free 1
                have f2 := D15.out.res.free 2
                have f3 := D15.out.res.free 3
                have f4 := D15.out.res.free 4
                go_wp2
                clear v0 v1 v2 v3 v4 r0 r1 r2 r3 r4 f0 f1 f2 f3 f4
                obtain ⟨s0, s1, s2, s3, s4⟩ := (setV_box D15.out.res y).cells
                exact bodyPost_ret (v := .tuple #[vV y, .int .i64 (z + 1)]) (by simp [results, Try.results24, go_sem, s0, s1, s2, s3, s4]) rfl ⟨y, by rw [Hjn.out], D15.out.tell.1, D15.out.tell.2.1, D15.out.tell.2.2⟩
end Go.Proofs.Ytfdbkmncgngkjaa
