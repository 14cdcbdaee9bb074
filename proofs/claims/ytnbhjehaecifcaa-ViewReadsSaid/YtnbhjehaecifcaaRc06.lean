/- The document's Check: a view may be, or not. -/
import Derived.Test.YtnbhjehaecifcaaKeep
import Derived.Test.YtnbhjehaecifcaaOps06
import Derived.Test.YtnbhjehaecifcaaRf06
import Derived.Deep.DeepCutAuto
import Derived.Deep.CutBlock
namespace Go.Proofs.Ytnbhjehaecifcaa
open Go.RowKit

/-- A row in which each is less than the one behind it. -/
theorem pair_next {r : Mb → Mb → Prop} (ht : ∀ a b c, r a b → r b c → r a c) : ∀ l : List Mb, (∀ (k : Nat) (p m : Mb), l[k]? = some p → l[k + 1]? = some m → r p m) → l.Pairwise r
  | [], _ => List.Pairwise.nil
  | [_], _ => List.pairwise_singleton _ _
  | a :: b :: l, h => by
    have h1 := pair_next ht (b :: l) (fun k p m hp hm => h (k + 1) p m hp hm)
    have hab := h 0 a b rfl rfl
    refine List.pairwise_cons.2 ⟨fun x hx => ?_, h1⟩
    rcases List.mem_cons.1 hx with rfl | hx
    · exact hab
    · exact ht a b x hab ((List.pairwise_cons.1 h1).1 x hx)
def gC (V : Vw) : Prop := 1 ≤ V.nodes ∧ V.nodes ≤ 8 ∧ 0 ≤ V.epoch ∧ V.epoch ≤ 1099511627776 ∧ (V.incs.length : Int) = V.nodes ∧ V.dead.length ≤ 20
def gI (z : Int) : Prop := 0 ≤ z ∧ z ≤ 1099511627776
def gM (V : Vw) (k : Nat) (m : Mb) : Prop := 0 ≤ m.1 ∧ m.1 < V.nodes ∧ 1 ≤ m.2.1 ∧ m.2.1 = incAt V m.1 ∧ ∀ p, V.mem[k - 1]? = some p → 0 < k → p.1 < m.1
def gD (V : Vw) (d : Mb) : Prop := 0 ≤ d.1 ∧ d.1 < V.nodes ∧ 1 ≤ d.2.1 ∧ d.2.1 ≤ incAt V d.1 ∧ d.2.2 = false ∧ incOf V d.1 ≠ d.2.1
def gP (V : Vw) (k : Nat) (d : Mb) : Prop := ∀ p, V.dead[k - 1]? = some p → 0 < k → ltP p d
theorem incOf_mem {V : Vw} (h : V.mem.Pairwise (fun a b => a.1 < b.1)) {m : Mb} (hm : m ∈ V.mem) : incOf V m.1 = m.2.1 := by
  unfold incOf
  cases hx : V.mem[V.mem.findIdx (pOf m.1)]? with
  | none => exact absurd rfl (of_none hx m hm)
  | some x =>
    obtain ⟨h1, h2⟩ := of_at hx
    obtain ⟨a, ha, rfl⟩ := List.getElem_of_mem hm
    obtain ⟨b, hb, rfl⟩ := List.getElem_of_mem h2
    have hp := List.pairwise_iff_getElem.1 h
    rcases Nat.lt_trichotomy a b with hab | hab | hab
    · have := hp a b ha hb hab; omega
    · subst hab; rfl
    · have := hp b a hb ha hab; omega
theorem incOf_no {V : Vw} {node : Int} (h : incOf V node ≠ 0) : ∃ m ∈ V.mem, m.1 = node ∧ m.2.1 = incOf V node := by
  unfold incOf at h ⊢
  cases hx : V.mem[V.mem.findIdx (pOf node)]? with
  | none => rw [hx] at h; exact absurd rfl h
  | some x =>
    obtain ⟨h1, h2⟩ := of_at hx
    exact ⟨x, h2, h1, rfl⟩
theorem ok_parts {V : Vw} (h : Ok V) : gC V ∧ (∀ z ∈ V.incs, gI z) ∧ (∀ k m, V.mem[k]? = some m → gM V k m) ∧ ∀ k d, V.dead[k]? = some d → gD V d ∧ gP V k d := by
  refine ⟨⟨h.n1, h.n8, h.e0, h.e1, h.len, h.dl⟩, h.inc, fun k m hm => ?_, fun k d hd => ⟨?_, ?_⟩⟩
  · obtain ⟨a, b, c, d⟩ := h.mm m (List.mem_of_getElem? hm)
    refine ⟨a, b, c, d, fun p hp hk => ?_⟩
    obtain ⟨h1, e1⟩ := List.getElem?_eq_some_iff.1 hp
    obtain ⟨h2, e2⟩ := List.getElem?_eq_some_iff.1 hm
    have := List.pairwise_iff_getElem.1 h.mp (k - 1) k h1 h2 (by omega)
    rw [e1, e2] at this
    exact this
  · obtain ⟨a, b, c, e, f, g⟩ := h.dd d (List.mem_of_getElem? hd)
    refine ⟨a, b, c, e, f, fun hi => ?_⟩
    obtain ⟨m, hm, e1, e2⟩ := incOf_no (V := V) (node := d.1) (by omega)
    exact g m hm ⟨e1, by omega⟩
  · intro p hp hk
    obtain ⟨h1, e1⟩ := List.getElem?_eq_some_iff.1 hp
    obtain ⟨h2, e2⟩ := List.getElem?_eq_some_iff.1 hd
    have := List.pairwise_iff_getElem.1 h.dp (k - 1) k h1 h2 (by omega)
    rw [e1, e2] at this
    exact this
theorem ok_of {V : Vw} (c : gC V) (i : ∀ z ∈ V.incs, gI z) (m : ∀ k m, V.mem[k]? = some m → gM V k m) (d : ∀ k d, V.dead[k]? = some d → gD V d ∧ gP V k d) : Ok V := by
  obtain ⟨c1, c2, c3, c4, c5, c6⟩ := c
  have hmp : V.mem.Pairwise (fun a b => a.1 < b.1) := pair_next (r := fun a b => a.1 < b.1) (fun a b c h k => by omega) _ fun k p q hp hq => (m (k + 1) q hq).2.2.2.2 p hp (by omega)
  have mem {l : List Mb} {a : Mb} (ha : a ∈ l) : ∃ k : Nat, l[k]? = some a := by
    obtain ⟨k, hk, e⟩ := List.getElem_of_mem ha
    exact ⟨k, by rw [List.getElem?_eq_getElem hk, e]⟩
  refine ⟨c1, c2, c3, c4, c5, i, hmp, fun a ha => ?_, c6, pair_next (r := ltP) (fun a b c h k => ltP_trans h k) _ fun k p q hp hq => (d (k + 1) q hq).2 p hp (by omega), fun a ha => ?_⟩
  · obtain ⟨k, hk⟩ := mem ha
    obtain ⟨h1, h2, h3, h4, _⟩ := m k a hk
    exact ⟨h1, h2, h3, h4⟩
  · obtain ⟨k, hk⟩ := mem ha
    obtain ⟨⟨h1, h2, h3, h4, h5, h6⟩, _⟩ := d k a hk
    refine ⟨h1, h2, h3, h4, h5, fun x hx ⟨e1, e2⟩ => ?_⟩
    have := incOf_mem hmp hx
    rw [e1] at this
    omega
theorem chk_no {V : Vw} (h : ¬ Ok V) : chkE V = 1 := by
  unfold chkE
  rw [if_neg (fun e => h ((ok_iff V).1 e))]
set_option maxRecDepth 100000 in
set_option maxHeartbeats 16000000 in
theorem RCheck_any (w : World) (x : Vx) (V : Vw) (h : IsV w x V) (hs : V.mem.length ≤ 1000) :
    Calls Try.prog 13 #[vV x] w fun e w' => e = .returned (.int .i64 (chkE V)) ∧ Below w.heap.size w w' := by
  have hn0 := h.nodes.symm
  have he0 := h.epoch.symm
  have hml := h.mem.length
  have hdl := h.dead.length
  have hil := h.incs.length
  have hms := h.mem.small
  have hds := h.dead.small
  have his := h.incs.small
  obtain ⟨q, Hq⟩ : ∃ q, Hid (w.heap.size = q) := ⟨_, Lib.hid rfl⟩
  obtain ⟨w1, Hw1⟩ : ∃ u, Hid (w.alloc (.cells (vC x) 25) = u) := ⟨_, Lib.hid rfl⟩
  have HB1 : Hid (BoxV w1 q x) := Lib.hid (by rw [← Hw1.out, ← Hq.out]; exact BoxV.new w x)
  have HL1 : Hid (Below w.heap.size w w1) := Lib.hid (by rw [← Hw1.out]; exact balloc (Below.refl _ _) _)
  have HV1 : Hid (IsV w1 x V) := Lib.hid (h.below HL1.out)
  clear h
  go_enter Try.func13, Try.ntmps13
  go_upto_region 1 with (fail)
  rw [show w.alloc (.cells #[.int .i64 x.nodes, .int .i64 x.epoch, .slice x.mA x.mn x.mc, .slice x.dA x.dn x.dc, .slice x.iA x.ir x.ic] 25) = w1 from Hw1.out, Hq.out]
  obtain ⟨v0, v1, v2, v3, v4⟩ := HB1.out.cells
  by_cases hC : gC V
  case neg =>
    have hway : x.nodes < 1 ∨ (1 ≤ x.nodes ∧ 8 < x.nodes) ∨ (1 ≤ x.nodes ∧ x.nodes ≤ 8 ∧ x.epoch < 0) ∨ (1 ≤ x.nodes ∧ x.nodes ≤ 8 ∧ 0 ≤ x.epoch ∧ 1099511627776 < x.epoch) ∨ (1 ≤ x.nodes ∧ x.nodes ≤ 8 ∧ 0 ≤ x.epoch ∧ x.epoch ≤ 1099511627776 ∧ (x.ir : Int) ≠ x.nodes) ∨ (1 ≤ x.nodes ∧ x.nodes ≤ 8 ∧ 0 ≤ x.epoch ∧ x.epoch ≤ 1099511627776 ∧ (x.ir : Int) = x.nodes ∧ 20 < x.dn) := by
      unfold gC at hC
      omega
    have HC := Lib.hid hC
    clear hC
    rcases hway with a1 | ⟨a1, a2⟩ | ⟨a1, a2, a3⟩ | ⟨a1, a2, a3, a4⟩ | ⟨a1, a2, a3, a4, a5⟩ | ⟨a1, a2, a3, a4, a5, a6⟩
    · go_wp2
      go_ret
      exact ⟨ret_int (chk_no (fun hok => HC.out (ok_parts hok).1)).symm, HL1.out⟩
    · go_wp2
      go_ret
      exact ⟨ret_int (chk_no (fun hok => HC.out (ok_parts hok).1)).symm, HL1.out⟩
    · go_wp2
      go_ret
      exact ⟨ret_int (chk_no (fun hok => HC.out (ok_parts hok).1)).symm, HL1.out⟩
    · go_wp2
      go_ret
      exact ⟨ret_int (chk_no (fun hok => HC.out (ok_parts hok).1)).symm, HL1.out⟩
    · have b5 := bne_yes a5
      go_wp2
      go_ret
      exact ⟨ret_int (chk_no (fun hok => HC.out (ok_parts hok).1)).symm, HL1.out⟩
    · have b5 := bne_no a5
      have b6 : (20 : Int) < (x.dn : Int) := by omega
      go_wp2
      go_ret
      exact ⟨ret_int (chk_no (fun hok => HC.out (ok_parts hok).1)).symm, HL1.out⟩
  case pos =>
    have HC := Lib.hid hC
    obtain ⟨a1, a2, a3, a4, a5, a6⟩ := hC
    have b5 : ((x.ir : Int) != x.nodes) = false := bne_no (by omega)
    have b6 : ¬ (20 : Int) < (x.dn : Int) := by omega
    have c1 : ¬ x.nodes < 1 := by omega
    have c2 : ¬ 8 < x.nodes := by omega
    have c3 : ¬ x.epoch < 0 := by omega
    have c4 : ¬ 1099511627776 < x.epoch := by omega
    go_wp2
    clear v0 v1 v2 v3 v4 b5 b6 c1 c2 c3 c4
    go_loop [3] (fun iv => ∃ k : Nat, iv = .int .i64 (k : Int) ∧ k ≤ x.ir ∧ Hid (∀ (i : Nat) (z : Int), i < k → V.incs[i]? = some z → gI z)) (fun iv => x.ir - (intOf iv).toNat)
    case atStart => exact ⟨0, rfl, Nat.zero_le _, Lib.hid (fun i z h => by omega)⟩
    case round =>
      obtain ⟨k, rfl, hk, HI⟩ := hrel
      obtain ⟨v0, v1, v2, v3, v4⟩ := HB1.out.cells
      by_cases hlt : k < x.ir
      · have hlt' : (k : Int) < (x.ir : Int) := by omega
        obtain ⟨gi, oi, ei, _, hci⟩ := HV1.out.incs.cells (by omega)
        obtain ⟨z, hz⟩ : ∃ z, V.incs[k]? = some z := ⟨_, List.getElem?_eq_getElem (by omega)⟩
        have hcz := hci k z hz
        have Hz := Lib.hid hz
        rw [ei] at v4
        clear hci hz
        by_cases z0 : z < 0
        · have HN : Hid (¬ Ok V) := Lib.hid (fun hok => by have := (ok_parts hok).2.1 z (List.mem_of_getElem? Hz.out); unfold gI at this; omega)
          go_wp2
          go_ret
          exact ⟨ret_int (chk_no HN.out).symm, HL1.out⟩
        · by_cases z1 : 1099511627776 < z
          · have HN : Hid (¬ Ok V) := Lib.hid (fun hok => by have := (ok_parts hok).2.1 z (List.mem_of_getElem? Hz.out); unfold gI at this; omega)
            go_wp2
            go_ret
            exact ⟨ret_int (chk_no HN.out).symm, HL1.out⟩
          · have HI2 : Hid (∀ (i : Nat) (z : Int), i < k + 1 → V.incs[i]? = some z → gI z) := Lib.hid (fun i y hi hy => by
              by_cases e : i = k
              · subst e
                rw [Hz.out] at hy
                injection hy with hy
                subst hy
                exact ⟨by omega, by omega⟩
              · exact HI.out i y (by omega) hy)
            go_wp2
            go_round
            case rel => exact ⟨k + 1, by go_num, by omega, HI2⟩
            case measure => simp [intOf]; omega
      · obtain rfl : k = x.ir := by omega
        have HI2 : Hid (∀ z ∈ V.incs, gI z) := Lib.hid (fun z hz => by
          obtain ⟨i, hi, e⟩ := List.getElem_of_mem hz
          exact HI.out i z (by omega) (by rw [List.getElem?_eq_getElem hi, e]))
        clear HI hlt hk
        go_wp2
        clear v0 v1 v2 v3 v4
        go_loopw [4] (fun iv wr => ∃ k : Nat, iv = .int .i64 (k : Int) ∧ k ≤ x.mn ∧ Hid (Below w1.heap.size w1 wr) ∧ Hid (∀ (i : Nat) (m : Mb), i < k → V.mem[i]? = some m → gM V i m)) (fun iv _ => x.mn - (intOf iv).toNat)
        case atStart => exact ⟨0, rfl, Nat.zero_le _, Lib.hid (Below.refl _ _), Lib.hid (fun i z h => by omega)⟩
        case round =>
          obtain ⟨k, rfl, hk, HL, HM⟩ := hrel
          obtain ⟨v0, v1, v2, v3, v4⟩ := (HB1.out.below HL.out).cells
          by_cases hlt : k < x.mn
          · have hlt' : (k : Int) < (x.mn : Int) := by omega
            obtain ⟨gm, om, em, _, hcm⟩ := (HV1.out.mem.below HL.out).cells (by omega)
            obtain ⟨m, hm⟩ : ∃ m, V.mem[k]? = some m := ⟨_, List.getElem?_eq_getElem (by omega)⟩
            obtain ⟨m0, m1, m2⟩ := hcm k m hm
            have Hm := Lib.hid hm
            rw [em] at v2
            clear hcm hm em
            go_upto_region 12 with (fail)
            obtain ⟨r, Hr⟩ : ∃ r, Hid (wr.heap.size = r) := ⟨_, Lib.hid rfl⟩
            obtain ⟨w2, Hw2⟩ : ∃ u, Hid (wr.alloc (.cells #[.int .i64 m.1, .int .i64 m.2.1, .bool m.2.2] 43) = u) := ⟨_, Lib.hid rfl⟩
            have HM2 : Hid (BoxM w2 r m) := Lib.hid (by rw [← Hw2.out, ← Hr.out]; exact BoxM.new wr m)
            have HL2 : Hid (Below w1.heap.size w1 w2) := Lib.hid (bnext HL.out (by rw [← Hw2.out]; exact balloc (Below.refl _ _) _))
            rw [show wr.alloc (.cells #[.int .i64 m.1, .int .i64 m.2.1, .bool m.2.2] 43) = w2 from Hw2.out, Hr.out]
            clear v0 v1 v2 v3 v4 m0 m1 m2
            have HB2 := Lib.hid (HB1.out.below HL2.out)
            have HV2 := Lib.hid (HV1.out.below HL2.out)
            go_cut [114] (fun v wx => ∃ B : Bool, v = .bool B ∧ Hid (B = true ↔ ¬ gM V k m) ∧ Hid (Below w2.heap.size w2 wx))
            case first =>
              obtain ⟨b0, b1, b2, b3, b4⟩ := HB2.out.cells
              obtain ⟨d0, d1, d2⟩ := HM2.out.cells
              have hql := HB2.out.lt
              have hrl := HM2.out.lt
              have k0 : ∀ y : In (Abv w2), y.u.cell? ⟨q, 0, none⟩ = some (.int .i64 x.nodes) := fun y => (y.is.cell (p := ⟨q, 0, none⟩) hql).trans b0
              have k2 : ∀ y : In (Abv w2), y.u.cell? ⟨q, 2, none⟩ = some (.slice x.mA x.mn x.mc) := fun y => (y.is.cell (p := ⟨q, 2, none⟩) hql).trans b2
              have k4 : ∀ y : In (Abv w2), y.u.cell? ⟨q, 4, none⟩ = some (.slice x.iA x.ir x.ic) := fun y => (y.is.cell (p := ⟨q, 4, none⟩) hql).trans b4
              have l0 : ∀ y : In (Abv w2), y.u.cell? ⟨r, 0, none⟩ = some (.int .i64 m.1) := fun y => (y.is.cell (p := ⟨r, 0, none⟩) hrl).trans d0
              have l1 : ∀ y : In (Abv w2), y.u.cell? ⟨r, 1, none⟩ = some (.int .i64 m.2.1) := fun y => (y.is.cell (p := ⟨r, 1, none⟩) hrl).trans d1
              clear b0 b1 b2 b3 b4 d0 d1 d2 hql hrl
              by_cases w0 : m.1 < 0
              · have HN : Hid (¬ gM V k m) := Lib.hid (fun g => by unfold gM at g; omega)
                as_aux_lemma =>
                  refine wp_region_mix (by kernel_rfl) (Cls (Abv w2)) [(0, 0), (1, 0), (2, 0), (3, 0), (4, 0), (5, 0), (6, 0), (7, 0), (8, 0), (9, 0), (10, 0), (11, 0), (12, 0), (13, 0), (14, 0), (15, 0), (16, 0), (17, 0), (18, 0), (19, 0), (20, 0), (21, 0), (22, 0), (23, 0), (24, 0), (25, 0), (26, 0), (27, 0), (28, 0), (29, 0), (30, 0), (31, 0), (32, 0), (33, 0), (34, 0), (35, 0), (36, 0), (37, 0), (38, 0), (39, 0), (40, 0), (41, 0)] (by kernel_rfl) (cls (Below.refl _ _).drew) ?_
                  repeat (refine mix0 rfl (fun K hK => ?_); go_simp; refine hK _ ?_; clear hK K)
                  refine mixEnd ?_
                  go_wp2
                  go_meet
                  exact ⟨_, rfl, Lib.hid ⟨fun _ => HN.out, fun _ => by first | rfl | simp⟩, Lib.hid (Below.refl _ _).drew⟩
              · by_cases wn : x.nodes ≤ m.1
                · have HN : Hid (¬ gM V k m) := Lib.hid (fun g => by unfold gM at g; omega)
                  as_aux_lemma =>
                    refine wp_region_mix (by kernel_rfl) (Cls (Abv w2)) [(0, 0), (1, 0), (2, 0), (3, 0), (4, 0), (5, 0), (6, 0), (7, 0), (8, 0), (9, 0), (10, 0), (11, 0), (12, 0), (13, 0), (14, 0), (15, 0), (16, 0), (17, 0), (18, 0), (19, 0), (20, 0), (21, 0), (22, 0), (23, 0), (24, 0), (25, 0), (26, 0), (27, 0), (28, 0), (29, 0), (30, 0), (31, 0), (32, 0), (33, 0), (34, 0), (35, 0), (36, 0), (37, 0), (38, 0), (39, 0), (40, 0), (41, 0)] (by kernel_rfl) (cls (Below.refl _ _).drew) ?_
                    repeat (refine mix0 rfl (fun K hK => ?_); go_simp; refine hK _ ?_; clear hK K)
                    refine mixEnd ?_
                    go_wp2
                    go_meet
                    exact ⟨_, rfl, Lib.hid ⟨fun _ => HN.out, fun _ => by first | rfl | simp⟩, Lib.hid (Below.refl _ _).drew⟩
                · by_cases wi : m.2.1 < 1
                  · have HN : Hid (¬ gM V k m) := Lib.hid (fun g => by unfold gM at g; omega)
                    as_aux_lemma =>
                      refine wp_region_mix (by kernel_rfl) (Cls (Abv w2)) [(0, 0), (1, 0), (2, 0), (3, 0), (4, 0), (5, 0), (6, 0), (7, 0), (8, 0), (9, 0), (10, 0), (11, 0), (12, 0), (13, 0), (14, 0), (15, 0), (16, 0), (17, 0), (18, 0), (19, 0), (20, 0), (21, 0), (22, 0), (23, 0), (24, 0), (25, 0), (26, 0), (27, 0), (28, 0), (29, 0), (30, 0), (31, 0), (32, 0), (33, 0), (34, 0), (35, 0), (36, 0), (37, 0), (38, 0), (39, 0), (40, 0), (41, 0)] (by kernel_rfl) (cls (Below.refl _ _).drew) ?_
                      repeat (refine mix0 rfl (fun K hK => ?_); go_simp; refine hK _ ?_; clear hK K)
                      refine mixEnd ?_
                      go_wp2
                      go_meet
                      exact ⟨_, rfl, Lib.hid ⟨fun _ => HN.out, fun _ => by first | rfl | simp⟩, Lib.hid (Below.refl _ _).drew⟩
                  · obtain ⟨j, ej⟩ : ∃ j : Nat, m.1 = (j : Int) := ⟨m.1.toNat, by omega⟩
                    have hji : j < x.ir := by omega
                    have hji' : (j : Int) < (x.ir : Int) := by omega
                    obtain ⟨gi, oi, ei, hgi, hci⟩ := HV2.out.incs.cells (by omega)
                    obtain ⟨z, hz⟩ : ∃ z, V.incs[j]? = some z := ⟨_, List.getElem?_eq_getElem (by omega)⟩
                    have hcz := hci j z hz
                    have kz : ∀ y : In (Abv w2), y.u.cell? ⟨gi, oi + j, none⟩ = some (.int .i64 z) := fun y => (y.is.cell (p := ⟨gi, oi + j, none⟩) hgi).trans hcz
                    have ez : incAt V m.1 = z := by rw [incAt, ej, Int.toNat_natCast, List.getD_eq_getElem?_getD, hz]; rfl
                    rw [ei] at k4
                    rw [ej] at l0 w0 wn
                    have HEz := Lib.hid ez
                    have HEj := Lib.hid ej
                    clear hci hcz hz ez ej ei
                    cases wz : (m.2.1 != z) with
                    | true =>
                      have HN : Hid (¬ gM V k m) := Lib.hid (fun g => by unfold gM at g; rw [HEz.out] at g; have h4 := g.2.2.2.1; rw [bne_iff_ne] at wz; exact wz h4)
                      as_aux_lemma =>
                        refine wp_region_mix (by kernel_rfl) (Cls (Abv w2)) [(0, 0), (1, 0), (2, 0), (3, 0), (4, 0), (5, 0), (6, 0), (7, 0), (8, 0), (9, 0), (10, 0), (11, 0), (12, 0), (13, 0), (14, 0), (15, 0), (16, 0), (17, 0), (18, 0), (19, 0), (20, 0), (21, 0), (22, 0), (23, 0), (24, 0), (25, 0), (26, 0), (27, 0), (28, 0), (29, 0), (30, 0), (31, 0), (32, 0), (33, 0), (34, 0), (35, 0), (36, 0), (37, 0), (38, 0), (39, 0), (40, 0), (41, 0)] (by kernel_rfl) (cls (Below.refl _ _).drew) ?_
                        repeat (refine mix0 rfl (fun K hK => ?_); go_simp; refine hK _ ?_; clear hK K)
                        refine mixEnd ?_
                        go_wp2
                        go_meet
                        exact ⟨_, rfl, Lib.hid ⟨fun _ => HN.out, fun _ => by first | rfl | simp⟩, Lib.hid (Below.refl _ _).drew⟩
                    | false =>
                      have HZ : Hid (m.2.1 = z) := Lib.hid (by simpa using wz)
                      by_cases k00 : k = 0
                      · have HG : Hid (gM V k m) := Lib.hid ⟨by have := HEj.out; omega, by have := HEj.out; omega, by omega, by rw [HEz.out]; exact HZ.out, fun p _ h => by omega⟩
                        subst k00
                        as_aux_lemma =>
                          refine wp_region_mix (by kernel_rfl) (Cls (Abv w2)) [(0, 0), (1, 0), (2, 0), (3, 0), (4, 0), (5, 0), (6, 0), (7, 0), (8, 0), (9, 0), (10, 0), (11, 0), (12, 0), (13, 0), (14, 0), (15, 0), (16, 0), (17, 0), (18, 0), (19, 0), (20, 0), (21, 0), (22, 0), (23, 0), (24, 0), (25, 0), (26, 0), (27, 0), (28, 0), (29, 0), (30, 0), (31, 0), (32, 0), (33, 0), (34, 0), (35, 0), (36, 0), (37, 0), (38, 0), (39, 0), (40, 0), (41, 0)] (by kernel_rfl) (cls (Below.refl _ _).drew) ?_
                          repeat (refine mix0 rfl (fun K hK => ?_); go_simp; refine hK _ ?_; clear hK K)
                          refine mixEnd ?_
                          go_wp2
                          go_meet
                          exact ⟨_, rfl, Lib.hid ⟨fun h => by first | (cases h; done) | (simp at h), fun h => absurd HG.out h⟩, Lib.hid (Below.refl _ _).drew⟩
                      · obtain ⟨kk, rfl⟩ : ∃ kk, k = kk + 1 := ⟨k - 1, by omega⟩
                        obtain ⟨p, hp⟩ : ∃ p, V.mem[kk]? = some p := ⟨_, List.getElem?_eq_getElem (by omega)⟩
                        obtain ⟨gm2, om2, em2, hgm, hcm⟩ := HV2.out.mem.cells (by omega)
                        obtain ⟨p0, _, _⟩ := hcm kk p hp
                        have kp : ∀ y : In (Abv w2), y.u.cell? ⟨gm2, om2 + kk * 3, none⟩ = some (.int .i64 p.1) := fun y => (y.is.cell (p := ⟨gm2, om2 + kk * 3, none⟩) hgm).trans p0
                        rw [em2] at k2
                        have Hp := Lib.hid hp
                        have hk0 : (0 : Int) < ((kk + 1 : Nat) : Int) := by omega
                        have ek : IntKind.i64.wrap (kk : Int) = (kk : Int) := IntWalk.i64_in _ (by omega)
                        have hk1 : (kk : Int) < (x.mn : Int) := by omega
                        clear hcm p0 hp em2
                        by_cases wp : (j : Int) ≤ p.1
                        · have HN : Hid (¬ gM V (kk + 1) m) := Lib.hid (fun g => by have := g.2.2.2.2 p (by simpa using Hp.out) (by omega); have := HEj.out; omega)
                          as_aux_lemma =>
                            refine wp_region_mix (by kernel_rfl) (Cls (Abv w2)) [(0, 0), (1, 0), (2, 0), (3, 0), (4, 0), (5, 0), (6, 0), (7, 0), (8, 0), (9, 0), (10, 0), (11, 0), (12, 0), (13, 0), (14, 0), (15, 0), (16, 0), (17, 0), (18, 0), (19, 0), (20, 0), (21, 0), (22, 0), (23, 0), (24, 0), (25, 0), (26, 0), (27, 0), (28, 0), (29, 0), (30, 0), (31, 0), (32, 0), (33, 0), (34, 0), (35, 0), (36, 0), (37, 0), (38, 0), (39, 0), (40, 0), (41, 0)] (by kernel_rfl) (cls (Below.refl _ _).drew) ?_
                            repeat (refine mix0 rfl (fun K hK => ?_); go_simp; refine hK _ ?_; clear hK K)
                            refine mixEnd ?_
                            go_wp2
                            go_meet
                            exact ⟨_, rfl, Lib.hid ⟨fun _ => HN.out, fun _ => by first | rfl | simp⟩, Lib.hid (Below.refl _ _).drew⟩
                        · have HG : Hid (gM V (kk + 1) m) := Lib.hid ⟨by have := HEj.out; omega, by have := HEj.out; omega, by omega, by rw [HEz.out]; exact HZ.out, fun p' h' _ => by
                            have h2 := Hp.out
                            rw [Nat.add_sub_cancel, h2] at h'
                            injection h' with h'
                            subst h'
                            have := HEj.out
                            omega⟩
                          as_aux_lemma =>
                            refine wp_region_mix (by kernel_rfl) (Cls (Abv w2)) [(0, 0), (1, 0), (2, 0), (3, 0), (4, 0), (5, 0), (6, 0), (7, 0), (8, 0), (9, 0), (10, 0), (11, 0), (12, 0), (13, 0), (14, 0), (15, 0), (16, 0), (17, 0), (18, 0), (19, 0), (20, 0), (21, 0), (22, 0), (23, 0), (24, 0), (25, 0), (26, 0), (27, 0), (28, 0), (29, 0), (30, 0), (31, 0), (32, 0), (33, 0), (34, 0), (35, 0), (36, 0), (37, 0), (38, 0), (39, 0), (40, 0), (41, 0)] (by kernel_rfl) (cls (Below.refl _ _).drew) ?_
                            repeat (refine mix0 rfl (fun K hK => ?_); go_simp; refine hK _ ?_; clear hK K)
                            refine mixEnd ?_
                            go_wp2
                            go_meet
                            exact ⟨_, rfl, Lib.hid ⟨fun h => by first | (cases h; done) | (simp at h), fun h => absurd HG.out h⟩, Lib.hid (Below.refl _ _).drew⟩
            case rest =>
              obtain ⟨B, rfl, HBi, HLx⟩ := hcut
              have HL3 : Hid (Below w1.heap.size w1 wc) := Lib.hid (bnext HL2.out HLx.out)
              cases B with
              | true =>
                have HN : Hid (¬ Ok V) := Lib.hid (fun hok => HBi.out.1 rfl ((ok_parts hok).2.2.1 k m Hm.out))
                have HLw : Hid (Below w.heap.size w wc) := Lib.hid (bnext HL1.out HL3.out)
                go_wp2
                go_ret
                exact ⟨ret_int (chk_no HN.out).symm, HLw.out⟩
              | false =>
                have HG : Hid (gM V k m) := Lib.hid (Classical.byContradiction fun h => by have := HBi.out.2 h; cases this)
                have HMk : Hid (∀ (i : Nat) (m : Mb), i < k + 1 → V.mem[i]? = some m → gM V i m) := Lib.hid (fun i y hi hy => by
                  by_cases e : i = k
                  · subst e
                    rw [Hm.out] at hy
                    injection hy with hy
                    subst hy
                    exact HG.out
                  · exact HM.out i y (by omega) hy)
                go_wp2
                go_roundw
                case rel => exact ⟨k + 1, by go_num, by omega, HL3, HMk⟩
                case measure => simp [intOf]; omega
          · obtain rfl : k = x.mn := by omega
            have HMa : Hid (∀ k m, V.mem[k]? = some m → gM V k m) := Lib.hid (fun k m hm => HM.out k m (by have := (List.getElem?_eq_some_iff.1 hm).1; omega) hm)
            clear HM hlt hk
            go_wp2
            clear v0 v1 v2 v3 v4
            go_loopw [6] (fun iv wr => ∃ k : Nat, iv = .int .i64 (k : Int) ∧ k ≤ x.dn ∧ Hid (Below w1.heap.size w1 wr) ∧ Hid (∀ (i : Nat) (d : Mb), i < k → V.dead[i]? = some d → gD V d ∧ gP V i d)) (fun iv _ => x.dn - (intOf iv).toNat)
            case atStart => exact ⟨0, rfl, Nat.zero_le _, HL, Lib.hid (fun i z h => by omega)⟩
            case round =>
              obtain ⟨k, rfl, hk, HL, HM⟩ := hrel
              obtain ⟨v0, v1, v2, v3, v4⟩ := (HB1.out.below HL.out).cells
              by_cases hlt : k < x.dn
              · have hlt' : (k : Int) < (x.dn : Int) := by omega
                obtain ⟨gm, om, em, _, hcm⟩ := (HV1.out.dead.below HL.out).cells (by omega)
                obtain ⟨m, hm⟩ : ∃ m, V.dead[k]? = some m := ⟨_, List.getElem?_eq_getElem (by omega)⟩
                obtain ⟨m0, m1, m2⟩ := hcm k m hm
                have Hm := Lib.hid hm
                rw [em] at v3
                clear hcm hm em
                go_upto_region 18 with (fail)
                obtain ⟨r, Hr⟩ : ∃ r, Hid (wr.heap.size = r) := ⟨_, Lib.hid rfl⟩
                obtain ⟨w2, Hw2⟩ : ∃ u, Hid (wr.alloc (.cells #[.int .i64 m.1, .int .i64 m.2.1, .bool m.2.2] 43) = u) := ⟨_, Lib.hid rfl⟩
                have HM2 : Hid (BoxM w2 r m) := Lib.hid (by rw [← Hw2.out, ← Hr.out]; exact BoxM.new wr m)
                have HL2 : Hid (Below w1.heap.size w1 w2) := Lib.hid (bnext HL.out (by rw [← Hw2.out]; exact balloc (Below.refl _ _) _))
                rw [show wr.alloc (.cells #[.int .i64 m.1, .int .i64 m.2.1, .bool m.2.2] 43) = w2 from Hw2.out, Hr.out]
                clear v0 v1 v2 v3 v4 m0 m1 m2
                have HB2 := Lib.hid (HB1.out.below HL2.out)
                have HV2 := Lib.hid (HV1.out.below HL2.out)
                go_cut [165] (fun v wx => ∃ B : Bool, v = .bool B ∧ Hid (B = true ↔ ¬ gD V m) ∧ Hid (Below w2.heap.size w2 wx))
                case first =>
                  obtain ⟨b0, b1, b2, b3, b4⟩ := HB2.out.cells
                  obtain ⟨d0, d1, d2⟩ := HM2.out.cells
                  have hql := HB2.out.lt
                  have hrl := HM2.out.lt
                  have k0 : ∀ y : In (Abv w2), y.u.cell? ⟨q, 0, none⟩ = some (.int .i64 x.nodes) := fun y => (y.is.cell (p := ⟨q, 0, none⟩) hql).trans b0
                  have k1 : ∀ y : In (Abv w2), y.u.cell? ⟨q, 1, none⟩ = some (.int .i64 x.epoch) := fun y => (y.is.cell (p := ⟨q, 1, none⟩) hql).trans b1
                  have k2 : ∀ y : In (Abv w2), y.u.cell? ⟨q, 2, none⟩ = some (.slice x.mA x.mn x.mc) := fun y => (y.is.cell (p := ⟨q, 2, none⟩) hql).trans b2
                  have k3 : ∀ y : In (Abv w2), y.u.cell? ⟨q, 3, none⟩ = some (.slice x.dA x.dn x.dc) := fun y => (y.is.cell (p := ⟨q, 3, none⟩) hql).trans b3
                  have k4 : ∀ y : In (Abv w2), y.u.cell? ⟨q, 4, none⟩ = some (.slice x.iA x.ir x.ic) := fun y => (y.is.cell (p := ⟨q, 4, none⟩) hql).trans b4
                  have l0 : ∀ y : In (Abv w2), y.u.cell? ⟨r, 0, none⟩ = some (.int .i64 m.1) := fun y => (y.is.cell (p := ⟨r, 0, none⟩) hrl).trans d0
                  have l1 : ∀ y : In (Abv w2), y.u.cell? ⟨r, 1, none⟩ = some (.int .i64 m.2.1) := fun y => (y.is.cell (p := ⟨r, 1, none⟩) hrl).trans d1
                  have l2 : ∀ y : In (Abv w2), y.u.cell? ⟨r, 2, none⟩ = some (.bool m.2.2) := fun y => (y.is.cell (p := ⟨r, 2, none⟩) hrl).trans d2
                  clear b0 b1 b2 b3 b4 d0 d1 d2 hql hrl
                  by_cases w0 : m.1 < 0
                  · have HN : Hid (¬ gD V m) := Lib.hid (fun g => by unfold gD at g; omega)
                    as_aux_lemma =>
                      refine wp_region_mix (by kernel_rfl) (Cls (Abv w2)) [(0, 0), (1, 0), (2, 0), (3, 0), (4, 0), (5, 0), (6, 0), (7, 0), (8, 0), (9, 0), (10, 0), (11, 0), (12, 0), (13, 0), (14, 0), (15, 0), (16, 0), (17, 0), (18, 0), (19, 0), (20, 0), (21, 0), (22, 0), (23, 0), (24, 0), (25, 0), (26, 0), (27, 0), (28, 0), (29, 0), (30, 0), (31, 0), (32, 0), (33, 0), (35, 0), (36, 0), (34, 1), (37, 0), (38, 0)] (by kernel_rfl) (cls (Below.refl _ _).drew) ?_
                      repeat (refine mix0 rfl (fun K hK => ?_); go_simp; refine hK _ ?_; clear hK K)
                      refine mix1 rfl (fun K hK => ?_)
                      go_simp
                      refine hK _ _ (cls (Below.refl _ _).drew) ?_
                      clear hK K
                      repeat (refine mix0 rfl (fun K hK => ?_); go_simp; refine hK _ ?_; clear hK K)
                      refine mixEnd ?_
                      go_wp2
                      go_meet
                      exact ⟨_, rfl, Lib.hid ⟨fun _ => HN.out, fun _ => by first | rfl | simp⟩, Lib.hid (Below.refl _ _).drew⟩
                  · by_cases wn : x.nodes ≤ m.1
                    · have HN : Hid (¬ gD V m) := Lib.hid (fun g => by unfold gD at g; omega)
                      as_aux_lemma =>
                        refine wp_region_mix (by kernel_rfl) (Cls (Abv w2)) [(0, 0), (1, 0), (2, 0), (3, 0), (4, 0), (5, 0), (6, 0), (7, 0), (8, 0), (9, 0), (10, 0), (11, 0), (12, 0), (13, 0), (14, 0), (15, 0), (16, 0), (17, 0), (18, 0), (19, 0), (20, 0), (21, 0), (22, 0), (23, 0), (24, 0), (25, 0), (26, 0), (27, 0), (28, 0), (29, 0), (30, 0), (31, 0), (32, 0), (33, 0), (35, 0), (36, 0), (34, 1), (37, 0), (38, 0)] (by kernel_rfl) (cls (Below.refl _ _).drew) ?_
                        repeat (refine mix0 rfl (fun K hK => ?_); go_simp; refine hK _ ?_; clear hK K)
                        refine mix1 rfl (fun K hK => ?_)
                        go_simp
                        refine hK _ _ (cls (Below.refl _ _).drew) ?_
                        clear hK K
                        repeat (refine mix0 rfl (fun K hK => ?_); go_simp; refine hK _ ?_; clear hK K)
                        refine mixEnd ?_
                        go_wp2
                        go_meet
                        exact ⟨_, rfl, Lib.hid ⟨fun _ => HN.out, fun _ => by first | rfl | simp⟩, Lib.hid (Below.refl _ _).drew⟩
                    · by_cases wi : m.2.1 < 1
                      · have HN : Hid (¬ gD V m) := Lib.hid (fun g => by unfold gD at g; omega)
                        as_aux_lemma =>
                          refine wp_region_mix (by kernel_rfl) (Cls (Abv w2)) [(0, 0), (1, 0), (2, 0), (3, 0), (4, 0), (5, 0), (6, 0), (7, 0), (8, 0), (9, 0), (10, 0), (11, 0), (12, 0), (13, 0), (14, 0), (15, 0), (16, 0), (17, 0), (18, 0), (19, 0), (20, 0), (21, 0), (22, 0), (23, 0), (24, 0), (25, 0), (26, 0), (27, 0), (28, 0), (29, 0), (30, 0), (31, 0), (32, 0), (33, 0), (35, 0), (36, 0), (34, 1), (37, 0), (38, 0)] (by kernel_rfl) (cls (Below.refl _ _).drew) ?_
                          repeat (refine mix0 rfl (fun K hK => ?_); go_simp; refine hK _ ?_; clear hK K)
                          refine mix1 rfl (fun K hK => ?_)
                          go_simp
                          refine hK _ _ (cls (Below.refl _ _).drew) ?_
                          clear hK K
                          repeat (refine mix0 rfl (fun K hK => ?_); go_simp; refine hK _ ?_; clear hK K)
                          refine mixEnd ?_
                          go_wp2
                          go_meet
                          exact ⟨_, rfl, Lib.hid ⟨fun _ => HN.out, fun _ => by first | rfl | simp⟩, Lib.hid (Below.refl _ _).drew⟩
                      · obtain ⟨j, ej⟩ : ∃ j : Nat, m.1 = (j : Int) := ⟨m.1.toNat, by omega⟩
                        have hji : j < x.ir := by omega
                        have hji' : (j : Int) < (x.ir : Int) := by omega
                        obtain ⟨gi, oi, ei, hgi, hci⟩ := HV2.out.incs.cells (by omega)
                        obtain ⟨z, hz⟩ : ∃ z, V.incs[j]? = some z := ⟨_, List.getElem?_eq_getElem (by omega)⟩
                        have hcz := hci j z hz
                        have kz : ∀ y : In (Abv w2), y.u.cell? ⟨gi, oi + j, none⟩ = some (.int .i64 z) := fun y => (y.is.cell (p := ⟨gi, oi + j, none⟩) hgi).trans hcz
                        have ez : incAt V m.1 = z := by rw [incAt, ej, Int.toNat_natCast, List.getD_eq_getElem?_getD, hz]; rfl
                        have HInc := Lib.hid (fun u (hu : Below w2.heap.size w2 u) => RInc_any u x V (HV2.out.below hu) (j : Int))
                        have HIncE : Hid (vV x = .agg #[.int .i64 x.nodes, .int .i64 x.epoch, .slice x.mA x.mn x.mc, .slice x.dA x.dn x.dc, .slice (some ⟨gi, oi, none⟩) x.ir x.ic]) := Lib.hid (by rw [← ei])
                        rw [HIncE.out] at HInc
                        rw [ei] at k4
                        rw [ej] at l0 w0 wn
                        have HEz := Lib.hid ez
                        have HEj := Lib.hid ej
                        obtain ⟨I, HI⟩ : ∃ I, Hid (incOf V (j : Int) = I) := ⟨_, Lib.hid rfl⟩
                        rw [HI.out] at HInc
                        have HI' : Hid (incOf V m.1 = I) := Lib.hid (by rw [ej]; exact HI.out)
                        clear hci hcz hz ez ej ei
                        by_cases wz : z < m.2.1
                        · have HN : Hid (¬ gD V m) := Lib.hid (fun g => by unfold gD at g; rw [HEz.out] at g; omega)
                          as_aux_lemma =>
                            refine wp_region_mix (by kernel_rfl) (Cls (Abv w2)) [(0, 0), (1, 0), (2, 0), (3, 0), (4, 0), (5, 0), (6, 0), (7, 0), (8, 0), (9, 0), (10, 0), (11, 0), (12, 0), (13, 0), (14, 0), (15, 0), (16, 0), (17, 0), (18, 0), (19, 0), (20, 0), (21, 0), (22, 0), (23, 0), (24, 0), (25, 0), (26, 0), (27, 0), (28, 0), (29, 0), (30, 0), (31, 0), (32, 0), (33, 0), (35, 0), (36, 0), (34, 1), (37, 0), (38, 0)] (by kernel_rfl) (cls (Below.refl _ _).drew) ?_
                            repeat (refine mix0 rfl (fun K hK => ?_); go_simp; refine hK _ ?_; clear hK K)
                            refine mix1 rfl (fun K hK => ?_)
                            go_simp
                            refine hK _ _ (cls (Below.refl _ _).drew) ?_
                            clear hK K
                            repeat (refine mix0 rfl (fun K hK => ?_); go_simp; refine hK _ ?_; clear hK K)
                            refine mixEnd ?_
                            go_wp2
                            go_meet
                            exact ⟨_, rfl, Lib.hid ⟨fun _ => HN.out, fun _ => by first | rfl | simp⟩, Lib.hid (Below.refl _ _).drew⟩
                        · cases wr2 : m.2.2 with
                          | true =>
                            rw [wr2] at l2
                            have HN : Hid (¬ gD V m) := Lib.hid (fun g => by unfold gD at g; rw [wr2] at g; have := g.2.2.2.2.1; cases this)
                            as_aux_lemma =>
                              refine wp_region_mix (by kernel_rfl) (Cls (Abv w2)) [(0, 0), (1, 0), (2, 0), (3, 0), (4, 0), (5, 0), (6, 0), (7, 0), (8, 0), (9, 0), (10, 0), (11, 0), (12, 0), (13, 0), (14, 0), (15, 0), (16, 0), (17, 0), (18, 0), (19, 0), (20, 0), (21, 0), (22, 0), (23, 0), (24, 0), (25, 0), (26, 0), (27, 0), (28, 0), (29, 0), (30, 0), (31, 0), (32, 0), (33, 0), (35, 0), (36, 0), (34, 1), (37, 0), (38, 0)] (by kernel_rfl) (cls (Below.refl _ _).drew) ?_
                              repeat (refine mix0 rfl (fun K hK => ?_); go_simp; refine hK _ ?_; clear hK K)
                              refine mix1 rfl (fun K hK => ?_)
                              go_simp
                              refine hK _ _ (cls (Below.refl _ _).drew) ?_
                              clear hK K
                              repeat (refine mix0 rfl (fun K hK => ?_); go_simp; refine hK _ ?_; clear hK K)
                              refine mixEnd ?_
                              go_wp2
                              go_meet
                              exact ⟨_, rfl, Lib.hid ⟨fun _ => HN.out, fun _ => by first | rfl | simp⟩, Lib.hid (Below.refl _ _).drew⟩
                          | false =>
                            rw [wr2] at l2
                            cases wI : (I == m.2.1) with
                            | true =>
                              have HN : Hid (¬ gD V m) := Lib.hid (fun g => by have := g.2.2.2.2.2; rw [HI'.out] at this; exact this (by simpa using wI))
                              as_aux_lemma =>
                                refine wp_region_mix (by kernel_rfl) (Cls (Abv w2)) [(0, 0), (1, 0), (2, 0), (3, 0), (4, 0), (5, 0), (6, 0), (7, 0), (8, 0), (9, 0), (10, 0), (11, 0), (12, 0), (13, 0), (14, 0), (15, 0), (16, 0), (17, 0), (18, 0), (19, 0), (20, 0), (21, 0), (22, 0), (23, 0), (24, 0), (25, 0), (26, 0), (27, 0), (28, 0), (29, 0), (30, 0), (31, 0), (32, 0), (33, 0), (35, 0), (36, 0), (34, 1), (37, 0), (38, 0)] (by kernel_rfl) (cls (Below.refl _ _).drew) ?_
                                repeat (refine mix0 rfl (fun K hK => ?_); go_simp; refine hK _ ?_; clear hK K)
                                refine mix1 rfl (fun K hK => ?_)
                                go_simp
                                refine (HInc.out w2.drew (Below.refl w2.heap.size w2).drew).mono ?_
                                rintro e w5 ⟨rfl, b5⟩
                                have HB5 : Hid (Below w2.heap.size w2 w5) := Lib.hid ((Below.refl w2.heap.size w2).drew.trans b5)
                                clear b5
                                refine ⟨_, rfl, hK _ _ (cls HB5.out) ?_⟩
                                clear hK K
                                repeat (refine mix0 rfl (fun K hK => ?_); go_simp; refine hK _ ?_; clear hK K)
                                refine mixEnd ?_
                                go_wp2
                                go_meet
                                exact ⟨_, rfl, Lib.hid ⟨fun _ => HN.out, fun _ => by first | rfl | simp⟩, HB5⟩
                            | false =>
                              have HG : Hid (gD V m) := Lib.hid ⟨by have := HEj.out; omega, by have := HEj.out; omega, by omega, by rw [HEz.out]; omega, wr2, by rw [HI'.out]; simpa using wI⟩
                              as_aux_lemma =>
                                refine wp_region_mix (by kernel_rfl) (Cls (Abv w2)) [(0, 0), (1, 0), (2, 0), (3, 0), (4, 0), (5, 0), (6, 0), (7, 0), (8, 0), (9, 0), (10, 0), (11, 0), (12, 0), (13, 0), (14, 0), (15, 0), (16, 0), (17, 0), (18, 0), (19, 0), (20, 0), (21, 0), (22, 0), (23, 0), (24, 0), (25, 0), (26, 0), (27, 0), (28, 0), (29, 0), (30, 0), (31, 0), (32, 0), (33, 0), (35, 0), (36, 0), (34, 1), (37, 0), (38, 0)] (by kernel_rfl) (cls (Below.refl _ _).drew) ?_
                                repeat (refine mix0 rfl (fun K hK => ?_); go_simp; refine hK _ ?_; clear hK K)
                                refine mix1 rfl (fun K hK => ?_)
                                go_simp
                                refine (HInc.out w2.drew (Below.refl w2.heap.size w2).drew).mono ?_
                                rintro e w5 ⟨rfl, b5⟩
                                have HB5 : Hid (Below w2.heap.size w2 w5) := Lib.hid ((Below.refl w2.heap.size w2).drew.trans b5)
                                clear b5
                                refine ⟨_, rfl, hK _ _ (cls HB5.out) ?_⟩
                                clear hK K
                                repeat (refine mix0 rfl (fun K hK => ?_); go_simp; refine hK _ ?_; clear hK K)
                                refine mixEnd ?_
                                go_wp2
                                go_meet
                                exact ⟨_, rfl, Lib.hid ⟨fun h => by first | (cases h; done) | (simp at h), fun h => absurd HG.out h⟩, HB5⟩
                case rest =>
                  obtain ⟨B, rfl, HBi, HLx⟩ := hcut
                  have HL3 : Hid (Below w1.heap.size w1 wc) := Lib.hid (bnext HL2.out HLx.out)
                  cases B with
                  | true =>
                    have HN : Hid (¬ Ok V) := Lib.hid (fun hok => HBi.out.1 rfl ((ok_parts hok).2.2.2 k m Hm.out).1)
                    have HLw : Hid (Below w.heap.size w wc) := Lib.hid (bnext HL1.out HL3.out)
                    go_wp2
                    go_ret
                    exact ⟨ret_int (chk_no HN.out).symm, HLw.out⟩
                  | false =>
                    have HG : Hid (gD V m) := Lib.hid (Classical.byContradiction fun h => by have := HBi.out.2 h; cases this)
                    have HM3 := Lib.hid (HM2.out.below HLx.out)
                    have HB3 := Lib.hid (HB1.out.below HL3.out)
                    have HV3 := Lib.hid (HV1.out.below HL3.out)
                    go_upto_region 20 with (fail)
                    obtain ⟨w2, Hw2'⟩ : ∃ u : World, u = wc := ⟨_, rfl⟩
                    subst Hw2'
                    go_cut [203] (fun v wx => ∃ B : Bool, v = .bool B ∧ Hid (B = true ↔ ¬ gP V k m) ∧ Hid (Below w2.heap.size w2 wx))
                    case first =>
                      obtain ⟨b0, b1, b2, b3, b4⟩ := HB3.out.cells
                      obtain ⟨d0, d1, d2⟩ := HM3.out.cells
                      have hql := HB3.out.lt
                      have hrl := HM3.out.lt
                      have k3 : ∀ y : In (Abv w2), y.u.cell? ⟨q, 3, none⟩ = some (.slice x.dA x.dn x.dc) := fun y => (y.is.cell (p := ⟨q, 3, none⟩) hql).trans b3
                      have l0 : ∀ y : In (Abv w2), y.u.cell? ⟨r, 0, none⟩ = some (.int .i64 m.1) := fun y => (y.is.cell (p := ⟨r, 0, none⟩) hrl).trans d0
                      have l1 : ∀ y : In (Abv w2), y.u.cell? ⟨r, 1, none⟩ = some (.int .i64 m.2.1) := fun y => (y.is.cell (p := ⟨r, 1, none⟩) hrl).trans d1
                      clear b0 b1 b2 b3 b4 d0 d1 d2 hql hrl
                      by_cases k00 : k = 0
                      · have HG2 : Hid (gP V k m) := Lib.hid (fun p _ h => by omega)
                        subst k00
                        as_aux_lemma =>
                          refine wp_region_mix (by kernel_rfl) (Cls (Abv w2)) [(0, 0), (1, 0), (2, 0), (3, 0), (4, 0), (5, 0), (6, 0), (7, 0), (8, 0), (9, 0), (10, 0), (11, 0), (12, 0), (13, 0), (14, 0), (15, 0), (16, 0), (17, 0), (18, 0), (19, 0), (20, 0), (21, 0), (22, 0), (23, 0), (24, 0), (25, 0), (26, 0), (27, 0), (28, 0), (29, 0), (30, 0), (31, 0), (32, 0), (33, 0), (34, 0), (35, 0), (36, 0), (37, 0)] (by kernel_rfl) (cls (Below.refl _ _).drew) ?_
                          repeat (refine mix0 rfl (fun K hK => ?_); go_simp; refine hK _ ?_; clear hK K)
                          refine mixEnd ?_
                          go_wp2
                          go_meet
                          exact ⟨_, rfl, Lib.hid ⟨fun h => by first | (cases h; done) | (simp at h), fun h => absurd HG2.out h⟩, Lib.hid (Below.refl _ _).drew⟩
                      · obtain ⟨kk, rfl⟩ : ∃ kk, k = kk + 1 := ⟨k - 1, by omega⟩
                        obtain ⟨p, hp⟩ : ∃ p, V.dead[kk]? = some p := ⟨_, List.getElem?_eq_getElem (by omega)⟩
                        obtain ⟨gm2, om2, em2, hgm, hcm⟩ := HV3.out.dead.cells (by omega)
                        obtain ⟨p0, p1, _⟩ := hcm kk p hp
                        have kp : ∀ y : In (Abv w2), y.u.cell? ⟨gm2, om2 + kk * 3, none⟩ = some (.int .i64 p.1) := fun y => (y.is.cell (p := ⟨gm2, om2 + kk * 3, none⟩) hgm).trans p0
                        have kp1 : ∀ y : In (Abv w2), y.u.cell? ⟨gm2, om2 + kk * 3 + 1, none⟩ = some (.int .i64 p.2.1) := fun y => (y.is.cell (p := ⟨gm2, om2 + kk * 3 + 1, none⟩) hgm).trans p1
                        rw [em2] at k3
                        have Hp : Hid (V.dead[kk + 1 - 1]? = some p) := Lib.hid (by simpa using hp)
                        have hk0 : (0 : Int) < ((kk + 1 : Nat) : Int) := by omega
                        have ek : IntKind.i64.wrap (kk : Int) = (kk : Int) := IntWalk.i64_in _ (by omega)
                        have hk1 : (kk : Int) < (x.dn : Int) := by omega
                        clear hcm p0 p1 hp em2
                        by_cases wp : m.1 < p.1
                        · have HN : Hid (¬ gP V (kk + 1) m) := Lib.hid (fun g => by have := g p Hp.out (by omega); unfold ltP at this; omega)
                          as_aux_lemma =>
                            refine wp_region_mix (by kernel_rfl) (Cls (Abv w2)) [(0, 0), (1, 0), (2, 0), (3, 0), (4, 0), (5, 0), (6, 0), (7, 0), (8, 0), (9, 0), (10, 0), (11, 0), (12, 0), (13, 0), (14, 0), (15, 0), (16, 0), (17, 0), (18, 0), (19, 0), (20, 0), (21, 0), (22, 0), (23, 0), (24, 0), (25, 0), (26, 0), (27, 0), (28, 0), (29, 0), (30, 0), (31, 0), (32, 0), (33, 0), (34, 0), (35, 0), (36, 0), (37, 0)] (by kernel_rfl) (cls (Below.refl _ _).drew) ?_
                            repeat (refine mix0 rfl (fun K hK => ?_); go_simp; refine hK _ ?_; clear hK K)
                            refine mixEnd ?_
                            go_wp2
                            go_meet
                            exact ⟨_, rfl, Lib.hid ⟨fun _ => HN.out, fun _ => by first | rfl | simp⟩, Lib.hid (Below.refl _ _).drew⟩
                        · cases wq : (p.1 == m.1) with
                          | false =>
                            have HG2 : Hid (gP V (kk + 1) m) := Lib.hid (fun p' h' _ => by
                              rw [Hp.out] at h'
                              injection h' with h'
                              subst h'
                              have : p.1 ≠ m.1 := by simpa using wq
                              exact .inl (by omega))
                            as_aux_lemma =>
                              refine wp_region_mix (by kernel_rfl) (Cls (Abv w2)) [(0, 0), (1, 0), (2, 0), (3, 0), (4, 0), (5, 0), (6, 0), (7, 0), (8, 0), (9, 0), (10, 0), (11, 0), (12, 0), (13, 0), (14, 0), (15, 0), (16, 0), (17, 0), (18, 0), (19, 0), (20, 0), (21, 0), (22, 0), (23, 0), (24, 0), (25, 0), (26, 0), (27, 0), (28, 0), (29, 0), (30, 0), (31, 0), (32, 0), (33, 0), (34, 0), (35, 0), (36, 0), (37, 0)] (by kernel_rfl) (cls (Below.refl _ _).drew) ?_
                              repeat (refine mix0 rfl (fun K hK => ?_); go_simp; refine hK _ ?_; clear hK K)
                              refine mixEnd ?_
                              go_wp2
                              go_meet
                              exact ⟨_, rfl, Lib.hid ⟨fun h => by first | (cases h; done) | (simp at h), fun h => absurd HG2.out h⟩, Lib.hid (Below.refl _ _).drew⟩
                          | true =>
                            have HE : Hid (p.1 = m.1) := Lib.hid (by simpa using wq)
                            by_cases wr3 : m.2.1 ≤ p.2.1
                            · have HN : Hid (¬ gP V (kk + 1) m) := Lib.hid (fun g => by have := g p Hp.out (by omega); unfold ltP at this; have := HE.out; omega)
                              as_aux_lemma =>
                                refine wp_region_mix (by kernel_rfl) (Cls (Abv w2)) [(0, 0), (1, 0), (2, 0), (3, 0), (4, 0), (5, 0), (6, 0), (7, 0), (8, 0), (9, 0), (10, 0), (11, 0), (12, 0), (13, 0), (14, 0), (15, 0), (16, 0), (17, 0), (18, 0), (19, 0), (20, 0), (21, 0), (22, 0), (23, 0), (24, 0), (25, 0), (26, 0), (27, 0), (28, 0), (29, 0), (30, 0), (31, 0), (32, 0), (33, 0), (34, 0), (35, 0), (36, 0), (37, 0)] (by kernel_rfl) (cls (Below.refl _ _).drew) ?_
                                repeat (refine mix0 rfl (fun K hK => ?_); go_simp; refine hK _ ?_; clear hK K)
                                refine mixEnd ?_
                                go_wp2
                                go_meet
                                exact ⟨_, rfl, Lib.hid ⟨fun _ => HN.out, fun _ => by first | rfl | simp⟩, Lib.hid (Below.refl _ _).drew⟩
                            · have HG2 : Hid (gP V (kk + 1) m) := Lib.hid (fun p' h' _ => by
                                rw [Hp.out] at h'
                                injection h' with h'
                                subst h'
                                exact .inr ⟨HE.out, by omega⟩)
                              as_aux_lemma =>
                                refine wp_region_mix (by kernel_rfl) (Cls (Abv w2)) [(0, 0), (1, 0), (2, 0), (3, 0), (4, 0), (5, 0), (6, 0), (7, 0), (8, 0), (9, 0), (10, 0), (11, 0), (12, 0), (13, 0), (14, 0), (15, 0), (16, 0), (17, 0), (18, 0), (19, 0), (20, 0), (21, 0), (22, 0), (23, 0), (24, 0), (25, 0), (26, 0), (27, 0), (28, 0), (29, 0), (30, 0), (31, 0), (32, 0), (33, 0), (34, 0), (35, 0), (36, 0), (37, 0)] (by kernel_rfl) (cls (Below.refl _ _).drew) ?_
                                repeat (refine mix0 rfl (fun K hK => ?_); go_simp; refine hK _ ?_; clear hK K)
                                refine mixEnd ?_
                                go_wp2
                                go_meet
                                exact ⟨_, rfl, Lib.hid ⟨fun h => by first | (cases h; done) | (simp at h), fun h => absurd HG2.out h⟩, Lib.hid (Below.refl _ _).drew⟩
                    case rest =>
                      obtain ⟨B, rfl, HBi2, HLx2⟩ := hcut
                      have HL4 : Hid (Below w1.heap.size w1 wc) := Lib.hid (bnext HL3.out HLx2.out)
                      cases B with
                      | true =>
                        have HN : Hid (¬ Ok V) := Lib.hid (fun hok => HBi2.out.1 rfl ((ok_parts hok).2.2.2 k m Hm.out).2)
                        have HLw : Hid (Below w.heap.size w wc) := Lib.hid (bnext HL1.out HL4.out)
                        go_wp2
                        go_ret
                        exact ⟨ret_int (chk_no HN.out).symm, HLw.out⟩
                      | false =>
                        have HG2 : Hid (gP V k m) := Lib.hid (Classical.byContradiction fun h => by have := HBi2.out.2 h; cases this)
                        have HMk : Hid (∀ (i : Nat) (d : Mb), i < k + 1 → V.dead[i]? = some d → gD V d ∧ gP V i d) := Lib.hid (fun i y hi hy => by
                          by_cases e : i = k
                          · subst e
                            rw [Hm.out] at hy
                            injection hy with hy
                            subst hy
                            exact ⟨HG.out, HG2.out⟩
                          · exact HM.out i y (by omega) hy)
                        go_wp2
                        go_roundw
                        case rel => exact ⟨k + 1, by go_num, by omega, HL4, HMk⟩
                        case measure => simp [intOf]; omega
              · obtain rfl : k = x.dn := by omega
                have HOk : Hid (Ok V) := Lib.hid (ok_of HC.out HI2.out HMa.out (fun k m hm => HM.out k m (by have := (List.getElem?_eq_some_iff.1 hm).1; omega) hm))
                have HLw : Hid (Below w.heap.size w wr) := Lib.hid (bnext HL1.out HL.out)
                go_wp2
                go_ret
                exact ⟨ret_int (chkE_ok HOk.out).symm, HLw.out⟩
end Go.Proofs.Ytnbhjehaecifcaa
