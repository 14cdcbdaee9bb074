/- The pieces of two ranges that lie side by side have together as many bytes as both; each lies behind the one ahead: InodeJoins. -/
import Derived.Test.YtdlbibhekoobjaaRows
import Derived.Test.YtdlbibhekoobjaaIs14

namespace Go.Proofs.Ytdlbibhekoobjaa.inodeJoins
open Go.RowKit Go.ChangeShapes Go.WideShapes Go.ChangeAt
open Go.ChangeMaps (open_string shut_string)

theorem tmod_bd (a : Int) (m : Nat) (hm : 0 < m) : -(m : Int) < a.tmod m ∧ a.tmod m < m := by
  have h := Int.natAbs_tmod a m
  have h2 : (a.tmod m).natAbs < m := by rw [h]; exact Nat.mod_lt _ (by simpa using hm)
  omega
/-- Three numbers in a block, free to be turned. -/
structure V3 (w : World) (b : Nat) (v : Nat → Int) : Prop where
  cell : ∀ k, k < 3 → w.cell? ⟨b, k, none⟩ = some (.int .i64 (v k))
  free : ∀ k, k < 3 → w.frozen? ⟨b, k, none⟩ = false
theorem V3.lt {w : World} {b : Nat} {v : Nat → Int} (h : V3 w b v) : b < w.heap.size := lt_of_cell (h.cell 0 (by omega))
theorem V3.below {w w' : World} {b : Nat} {v : Nat → Int} (h : V3 w b v) (m : Below w.heap.size w w') : V3 w' b v :=
  ⟨fun k hk => (m.cell (p := ⟨b, k, none⟩) h.lt).trans (h.cell k hk), fun k hk => (m.frozen (p := ⟨b, k, none⟩) h.lt).trans (h.free k hk)⟩
def up (v : Nat → Int) (k : Nat) (x : Int) : Nat → Int := fun j => if j = k then x else v j
theorem V3.set {w : World} {b : Nat} {v : Nat → Int} (h : V3 w b v) {k : Nat} (hk : k < 3) (x : Int) : V3 (w.setCell ⟨b, k, none⟩ (.int .i64 x)) b (up v k x) :=
  ⟨fun j hj => by
    by_cases e : j = k
    · subst e; rw [set_same (h.cell j hj)]; simp [up]
    · rw [set_other (fun q => e (by injection q with _ q2; exact q2.symm)) (h.cell j hj)]; simp [up, e], fun j hj => set_frozen (h.free j hj)⟩
def Bds (v : Nat → Int) : Prop := (0 ≤ v 0 ∧ v 0 ≤ 6144) ∧ (0 ≤ v 1 ∧ v 1 ≤ 6144) ∧ (0 ≤ v 2 ∧ v 2 ≤ 6144)
def Bub (i k : Nat) (v : Nat → Int) : Prop := Bds v ∧ (i = 1 → v 0 ≤ v 2 ∧ v 1 ≤ v 2) ∧ (k = 1 → v 0 ≤ v 1) ∧ (k = 2 → v 0 ≤ v 2 ∧ v 1 ≤ v 2 ∧ (i = 1 → v 0 ≤ v 1))
def Srt (i : Nat) (v : Nat → Int) : Prop := Bds v ∧ (1 ≤ i → v 0 ≤ v 2 ∧ v 1 ≤ v 2) ∧ (i = 2 → v 0 ≤ v 1)
theorem Chain.head {f t : Nat} {i a b : Nat} {l : List Pc} (h : Chain f t ((i, a, b) :: l)) : 512 * i + a = f ∧ a < b ∧ b ≤ 512 ∧ Chain (512 * i + b) t l := h
set_option maxRecDepth 100000 in
set_option maxHeartbeats 4000000 in
theorem walk (a0 a1 a2 : Int) (w : World) (_ : (Lit.int .i64 a0).wf = true) (_ : (Lit.int .i64 a1).wf = true) (_ : (Lit.int .i64 a2).wf = true) :
    Calls Try.prog 8 #[.agg #[.int .i64 a0, .int .i64 a1, .int .i64 a2]] w fun e w' => e = .returned (.bool true) ∧ Below w.heap.size w w' := by
  obtain ⟨b, Hb⟩ : ∃ b, Hid (w.heap.size = b) := ⟨_, Lib.hid rfl⟩
  obtain ⟨V, HV⟩ : ∃ x, Hid (w.alloc (.cells #[.int .i64 a0, .int .i64 a1, .int .i64 a2] 47) = x) := ⟨_, Lib.hid rfl⟩
  have B0 : Hid (Below b w V) := Lib.hid (by rw [← HV.out, ← Hb.out]; exact balloc (Below.refl _ w) _)
  have V0 : Hid (V3 V b (fun k => if k = 0 then a0 else if k = 1 then a1 else a2)) := Lib.hid (by
    rw [← HV.out, ← Hb.out]
    refine ⟨fun k hk => ?_, fun k hk => ?_⟩
    · rcases (show k = 0 ∨ k = 1 ∨ k = 2 by omega) with rfl | rfl | rfl <;> go_simp <;> rfl
    · go_simp)
  have hV := HV.out
  have hb := Hb.out
  go_enter Try.func8, Try.ntmps8
  go_wp2_with fail
  refine (awk14_any _).mono ?_
  rintro e w1 ⟨rfl, hb1⟩
  have V1 := Lib.hid (V0.out.below hb1)
  have B1 : Hid (Below b w w1) := Lib.hid (B0.out.trans (hb1.mono (by have := V0.out.lt; omega)))
  clear hb1 hV hb
  go_wp2_with fail
  go_loopw [4] (fun i wr => ∃ (k : Nat) (v : Nat → Int), k ≤ 3 ∧ i = .int .i64 k ∧ Hid (V3 wr b v) ∧ Hid (∀ j, j < k → 0 ≤ v j ∧ v j ≤ 6144) ∧ Hid (Below b w wr)) (fun i _ => 3 - (intOf i).toNat)
  case atStart => exact ⟨0, _, by omega, rfl, V1, Lib.hid (fun j hj => by omega), B1⟩
  case round =>
    obtain ⟨k, v, hk, rfl, HVr, Hbd, HB⟩ := hrel
    by_cases hlt : k < 3
    · have hltI : (k : Int) < 3 := by omega
      have c0 := HVr.out.cell k hlt
      have f0 := HVr.out.free k hlt
      have lt0 := HVr.out.lt
      obtain ⟨r, Hr⟩ : ∃ r, Hid ((v k).tmod 6145 = r) := ⟨_, Lib.hid rfl⟩
      have hrb : -6145 < r ∧ r < 6145 := by have := tmod_bd (v k) 6145 (by omega); rw [show ((6145 : Nat) : Int) = 6145 from rfl, Hr.out] at this; exact this
      obtain ⟨r0, r1⟩ := hrb
      have hr := Hr.out
      have B2 : Hid (Below b w (wr.setCell ⟨b, k, none⟩ (.int .i64 r))) := Lib.hid (HB.out.setCell (Nat.le_refl _) _)
      have V2 := Lib.hid (HVr.out.set hlt r)
      by_cases hneg : r < 0
      · have V4 := Lib.hid (V2.out.set hlt (-r))
        have B4 : Hid (Below b w ((wr.setCell ⟨b, k, none⟩ (.int .i64 r)).setCell ⟨b, k, none⟩ (.int .i64 (-r)))) := Lib.hid (B2.out.setCell (Nat.le_refl _) _)
        go_wp2
        go_roundw
        case rel => exact ⟨k + 1, _, by omega, by go_num, V4, Lib.hid (fun j hj => by
          by_cases e : j = k
          · subst e; simp only [up, if_pos]; omega
          · simp only [up, if_neg e]; exact Hbd.out j (by omega)), B4⟩
        case measure => simp [intOf]; omega
      · go_wp2
        go_roundw
        case rel => exact ⟨k + 1, _, by omega, by go_num, V2, Lib.hid (fun j hj => by
          by_cases e : j = k
          · subst e; simp only [up, if_pos]; omega
          · simp only [up, if_neg e]; exact Hbd.out j (by omega)), B2⟩
        case measure => simp [intOf]; omega
    · have hk3 : 3 ≤ k := by omega
      have hltI : ¬ (k : Int) < 3 := by omega
      have HS0 : Hid (Srt 0 v) := Lib.hid ⟨⟨Hbd.out 0 (by omega), Hbd.out 1 (by omega), Hbd.out 2 (by omega)⟩, by omega, by omega⟩
      go_wp2_with fail
      go_loopw [5] (fun i wr => ∃ (i' : Nat) (v : Nat → Int), i' ≤ 2 ∧ i = .int .i64 i' ∧ Hid (V3 wr b v) ∧ Hid (Srt i' v) ∧ Hid (Below b w wr)) (fun i _ => 2 - (intOf i).toNat)
      case atStart => exact ⟨0, _, by omega, rfl, HVr, HS0, HB⟩
      case round =>
        obtain ⟨i, v1, hi, rfl, HV1, HS, HB1⟩ := hrel
        by_cases hlt1 : i < 2
        · have hltI : (i : Int) < 2 := by omega
          have HB0 : Hid (Bub i 0 v1) := Lib.hid ⟨HS.out.1, fun e => HS.out.2.1 (by omega), by omega, by omega⟩
          go_wp2_with fail
          go_loopw [6] (fun k wr => ∃ (k' : Nat) (v : Nat → Int), k' ≤ 2 ∧ k = .int .i64 k' ∧ Hid (V3 wr b v) ∧ Hid (Bub i k' v) ∧ Hid (Below b w wr)) (fun k _ => 2 - (intOf k).toNat)
          case atStart => exact ⟨0, _, by omega, rfl, HV1, HB0, HB1⟩
          case round =>
            obtain ⟨k, v2, hk, rfl, HV2, HBu, HB2⟩ := hrel
            have lt0 := HV2.out.lt
            by_cases hlt2 : k < 2
            · obtain ⟨k1, Hk1⟩ : ∃ z, Hid (k + 1 = z) := ⟨_, Lib.hid rfl⟩
              have hk1 : (k : Int) + 1 = (k1 : Int) := by have := Hk1.out; omega
              have hk3 : k1 < 3 := by have := Hk1.out; omega
              have hk4 : (k1 : Int) < 3 := by omega
              have hk5 : (k : Int) < 3 := by omega
              have hk2 : (k : Int) < 2 := by omega
              have c0 := HV2.out.cell k (by omega)
              have c1 := HV2.out.cell k1 hk3
              have f0 := HV2.out.free k (by omega)
              have f1 := HV2.out.free k1 hk3
              have hne : k ≠ k1 := by have := Hk1.out; omega
              by_cases hgt : v2 k1 < v2 k
              · have VW : Hid (∀ q, V3 (((wr.drewN q).setCell ⟨b, k, none⟩ (.int .i64 (v2 k1))).setCell ⟨b, k1, none⟩ (.int .i64 (v2 k))) b (up (up v2 k (v2 k1)) k1 (v2 k))) := Lib.hid (fun q => V3.set (V3.set (V3.below HV2.out (below_drewN wr q)) (k := k) (by omega) (v2 k1)) (k := k1) hk3 (v2 k))
                have BW : Hid (∀ q, Below b w (((wr.drewN q).setCell ⟨b, k, none⟩ (.int .i64 (v2 k1))).setCell ⟨b, k1, none⟩ (.int .i64 (v2 k)))) := Lib.hid (fun q => ((HB2.out.trans ((below_drewN wr q).mono (by omega))).setCell (Nat.le_refl _) _).setCell (Nat.le_refl _) _)
                have HN : Hid (Bub i k1 (up (up v2 k (v2 k1)) k1 (v2 k))) := Lib.hid (by
                  have h3 := HBu.out
                  have h4 := Hk1.out
                  rcases (show k = 0 ∨ k = 1 by omega) with e | e
                  · subst e; subst h4
                    simp only [Bub, Bds, up] at *
                    simp at *
                    omega
                  · subst e; subst h4
                    simp only [Bub, Bds, up] at *
                    simp at *
                    omega)
                go_wp2_with fail
                go_quiet (fail)
                go_wp2
                go_roundw
                case rel => exact ⟨k1, _, by omega, by go_num, Lib.hid (VW.out _), HN, Lib.hid (BW.out _)⟩
                case measure => simp [intOf]; omega
              · have VW : Hid (∀ q, V3 (wr.drewN q) b v2) := Lib.hid (fun q => V3.below HV2.out (below_drewN wr q))
                have BW : Hid (∀ q, Below b w (wr.drewN q)) := Lib.hid (fun q => HB2.out.trans ((below_drewN wr q).mono (by omega)))
                have HN : Hid (Bub i k1 v2) := Lib.hid (by
                  have h3 := HBu.out
                  have h4 := Hk1.out
                  rcases (show k = 0 ∨ k = 1 by omega) with e | e
                  · subst e; subst h4
                    simp only [Bub, Bds] at *
                    simp at *
                    omega
                  · subst e; subst h4
                    simp only [Bub, Bds] at *
                    simp at *
                    omega)
                go_wp2_with fail
                go_quiet (fail)
                go_wp2
                go_roundw
                case rel => exact ⟨k1, _, by omega, by go_num, Lib.hid (VW.out _), HN, Lib.hid (BW.out _)⟩
                case measure => simp [intOf]; omega
            · have hk2 : k = 2 := by omega
              have hltK : ¬ (k : Int) < 2 := by omega
              have HSn : Hid (Srt (i + 1) v2) := Lib.hid (by
                obtain ⟨g0, g1, g2, g3⟩ := HBu.out
                have := g3 hk2
                exact ⟨g0, fun _ => ⟨this.1, this.2.1⟩, fun e => this.2.2 (by omega)⟩)
              clear hk2
              go_wp2
              go_roundw
              case rel => exact ⟨i + 1, _, by omega, by go_num, HV2, HSn, HB2⟩
              case measure => simp [intOf]; omega
        · have hi2 : i = 2 := by omega
          have hltI : ¬ (i : Int) < 2 := by omega
          obtain ⟨⟨⟨x0, x1⟩, ⟨y0, y1⟩, z0, z1⟩, hs1, hs2⟩ := HS.out
          obtain ⟨hs1, hs3⟩ := hs1 (by omega)
          have hs2 := hs2 hi2
          clear hi2
          obtain ⟨p, hp⟩ : ∃ p : Nat, v1 0 = (p : Int) := ⟨(v1 0).toNat, by omega⟩
          obtain ⟨q, hq⟩ : ∃ q : Nat, v1 1 = (q : Int) := ⟨(v1 1).toNat, by omega⟩
          obtain ⟨r, hr⟩ : ∃ r : Nat, v1 2 = (r : Int) := ⟨(v1 2).toNat, by omega⟩
          have c0 := HV1.out.cell 0 (by omega)
          have c1 := HV1.out.cell 1 (by omega)
          have c2 := HV1.out.cell 2 (by omega)
          rw [hp] at c0 x0 x1 hs1 hs2
          rw [hq] at c1 y0 y1 hs3 hs2
          rw [hr] at c2 z0 z1 hs1 hs3
          have HC : Hid (wr.cell? ⟨b, 0, none⟩ = some (.int .i64 (p : Int)) ∧ wr.cell? ⟨b, 1, none⟩ = some (.int .i64 (q : Int)) ∧ wr.cell? ⟨b, 2, none⟩ = some (.int .i64 (r : Int))) := Lib.hid ⟨c0, c1, c2⟩
          have lt0 := HV1.out.lt
          have Hlt0 := Lib.hid lt0
          clear hp hq hr
          have Hpq : Hid (pieces (p : Int) (q : Int) = pcs p q) := Lib.hid (by rw [pieces]; congr 1 <;> (try unfold clampT) <;> unfold clampF <;> omega)
          have Hqr : Hid (pieces (q : Int) (r : Int) = pcs q r) := Lib.hid (by rw [pieces]; congr 1 <;> (try unfold clampT) <;> unfold clampF <;> omega)
          have HCh : Hid (Chain p r (pcs p q ++ pcs q r)) := Lib.hid ((pcs_chain (by omega)).append (pcs_chain (by omega)))
          have hL1 := pcs_length_le (f := p) (t := q) (by omega)
          have hL2 := pcs_length_le (f := q) (t := r) (by omega)
          obtain ⟨P1, HP1⟩ : ∃ x, Hid (pcs p q = x) := ⟨_, Lib.hid rfl⟩
          obtain ⟨P2, HP2⟩ : ∃ x, Hid (pcs q r = x) := ⟨_, Lib.hid rfl⟩
          rw [HP1.out] at Hpq HCh hL1
          rw [HP2.out] at Hqr HCh hL2
          go_wp2_with fail
          refine (Pieces_any _ _ _).mono ?_
          rw [Hpq.out]
          rintro e w2 ⟨v, rfl, hr, _, hb⟩
          obtain ⟨A1, c1', he⟩ := hr.shape
          subst he
          have R2 := Lib.hid (hr.is encP_ok).1
          have B2 := Lib.hid hb
          clear hr hb c0 c1 c2
          obtain ⟨n1, Hn1⟩ : ∃ n, Hid (P1.length = n) := ⟨_, Lib.hid rfl⟩
          rw [Hn1.out] at R2 ⊢
          obtain ⟨T3, w3, hr3, r3, a3⟩ := appG pcInf encP_ok (RG.nil w2 3 encP) (c := c1') R2.out (by have := Hn1.out; simp; omega) (by decide) 37
          rw [List.nil_append] at r3
          have Hr3 := Lib.hid hr3
          have R3 := Lib.hid r3
          have B3 : Hid (Below wr.heap.size wr w3) := Lib.hid (bnext B2.out (a3.mod.to_below (fun g hg h => by cases h)))
          have HN3 : Hid (∀ g, blk T3 = some g → wr.heap.size ≤ g) := Lib.hid (fun g hg => by
            rcases a3.blk with e | ⟨g', e, h'⟩
            · rw [e] at hg; cases hg
            · rw [e] at hg; injection hg with hg; have := B2.out.size; omega)
          clear hr3 r3 a3
          obtain ⟨A3, c3, he⟩ := R3.out.shape
          subst he
          have d1 := (B3.out.cell (p := ⟨b, 1, none⟩) Hlt0.out).trans HC.out.2.1
          have d2 := (B3.out.cell (p := ⟨b, 2, none⟩) Hlt0.out).trans HC.out.2.2
          have lt3 : b < w3.heap.size := Nat.lt_of_lt_of_le Hlt0.out B3.out.size
          rw [Hn1.out] at R3 Hr3 HN3
          go_wp2_with (at_builtin; refine wpList_append_run rfl (.tmp 61) (.tmp 66) 37 rfl (by exact Hr3.out) ?_)
          refine (Pieces_any _ _ _).mono ?_
          rw [Hqr.out]
          rintro e w4 ⟨v, rfl, hr, _, hb⟩
          obtain ⟨A4, c4, he⟩ := hr.shape
          subst he
          have R4 := Lib.hid (hr.is encP_ok).1
          have B4 := Lib.hid (bnext B3.out hb)
          have R34 := Lib.hid (R3.out.below hb)
          clear hr hb d1 d2
          obtain ⟨n2, Hn2⟩ : ∃ n, Hid (P2.length = n) := ⟨_, Lib.hid rfl⟩
          rw [Hn2.out] at R4 ⊢
          obtain ⟨T5, w5, hr5, r5, a5⟩ := appG pcInf encP_ok R34.out (c := c4) R4.out (by have := Hn1.out; have := Hn2.out; omega) (by decide) 37
          have Hr5 := Lib.hid hr5
          have B5 : Hid (Below wr.heap.size wr w5) := Lib.hid (Mod.below B4.out a5.mod B4.out.size (fun g hg => HN3.out g hg))
          obtain ⟨L, HL⟩ : ∃ x, Hid (P1 ++ P2 = x) := ⟨_, Lib.hid rfl⟩
          rw [HL.out] at HCh r5
          have hLl : L.length ≤ 24 := by rw [← HL.out, List.length_append]; omega
          obtain ⟨A5, c5, he⟩ := r5.shape
          obtain ⟨n, Hn⟩ : ∃ n, Hid (L.length = n) := ⟨_, Lib.hid rfl⟩
          rw [Hn.out] at he hLl
          subst he
          have R5 := Lib.hid (r5.is encP_ok).1
          clear hr5 r5 a5
          have d0 := (B5.out.cell (p := ⟨b, 0, none⟩) Hlt0.out).trans HC.out.1
          have d2 := (B5.out.cell (p := ⟨b, 2, none⟩) Hlt0.out).trans HC.out.2.2
          have lt5 : b < w5.heap.size := Nat.lt_of_lt_of_le Hlt0.out B5.out.size
          have BW : Hid (Below b w w5) := Lib.hid (HB1.out.trans (B5.out.mono (by have := Hlt0.out; omega)))
          clear d2
          go_wp2_with (at_builtin; refine wpList_append_run rfl (.tmp 68) (.tmp 73) 37 rfl (by exact Hr5.out) ?_)
          go_loopw [9, 10] (fun a i wr => ∃ j pos q' : Nat, j ≤ n ∧ pos ≤ 6144 ∧ a = .int .i64 pos ∧ i = .int .i64 j ∧ Hid (Chain pos r (L.drop j)) ∧ Hid (wr = w5.drewN q')) (fun _ i _ => n - (intOf i).toNat)
          case atStart => exact ⟨0, p, 0, Nat.zero_le _, by omega, rfl, rfl, Lib.hid HCh.out, Lib.hid rfl⟩
          case round =>
            obtain ⟨j, pos, q', hj, hpos, rfl, rfl, HCj, Hwr⟩ := hrel
            have hwr := Hwr.out
            subst hwr
            by_cases hltj : j < n
            · have hltJ : (j : Int) < (n : Int) := by omega
              obtain ⟨⟨i3, a3, b3⟩, hp⟩ : ∃ p, L[j]? = some p := ⟨_, List.getElem?_eq_getElem (by rw [Hn.out]; exact hltj)⟩
              obtain ⟨g, off, rfl, e0, e1, e2⟩ := R5.out.piece hp
              have hd : L.drop j = (i3, a3, b3) :: L.drop (j + 1) := by
                obtain ⟨hk', he⟩ := List.getElem?_eq_some_iff.1 hp
                rw [List.drop_eq_getElem_cons hk', he]
              have hch := HCj.out
              rw [hd] at hch
              obtain ⟨h1, h2, h3, h4⟩ := hch
              have h5 := h4.le
              have HC4 := Lib.hid h4
              obtain ⟨e9, He9⟩ : ∃ z, Hid (512 * i3 + b3 = z) := ⟨_, Lib.hid rfl⟩
              rw [He9.out] at HC4 h5
              have h6 : (512 : Int) * (i3 : Int) + (a3 : Int) = (pos : Int) := by omega
              have h7 : (512 : Int) * (i3 : Int) + (b3 : Int) = (e9 : Int) := by have := He9.out; omega
              have h8 : ¬ (b3 : Int) ≤ (a3 : Int) := by omega
              have h9 : i3 ≤ 100 := by omega
              have w1' : IntKind.i64.wrap ((512 : Int) * (i3 : Int)) = (512 : Int) * (i3 : Int) := IntWalk.i64_in _ (by omega)
              have w2' : IntKind.i64.wrap ((512 : Int) * (i3 : Int) + (a3 : Int)) = (pos : Int) := by rw [h6]; exact IntWalk.i64_in _ (by omega)
              have w3' : IntKind.i64.wrap ((512 : Int) * (i3 : Int) + (b3 : Int)) = (e9 : Int) := by rw [h7]; exact IntWalk.i64_in _ (by omega)
              clear hp hd h1 h2 h3 h4
              go_wp2_with fail
              go_quiet (fail)
              go_wp2_with fail
              go_quiet (fail)
              go_wp2
              go_roundw
              case rel => exact ⟨j + 1, e9, _, by omega, by omega, rfl, by go_num, HC4, Lib.hid rfl⟩
              case measure => simp [intOf]; omega
            · have hjn : n ≤ j := by omega
              have hltJ : ¬ (j : Int) < (n : Int) := by omega
              have hpr : pos = r := by
                have := HCj.out
                rw [List.drop_eq_nil_of_le (by rw [Hn.out]; exact hjn)] at this
                exact this
              subst hpr
              have d2 : (w5.drewN q').cell? ⟨b, 2, none⟩ = some (.int .i64 (pos : Int)) := (B5.out.cell (p := ⟨b, 2, none⟩) Hlt0.out).trans HC.out.2.2
              have BE : Hid (Below b w (w5.drewN q')) := Lib.hid (BW.out.trans ((below_drewN w5 q').mono (by omega)))
              go_wp2
              go_ret
              exact ⟨rfl, by rw [Hb.out]; exact BE.out⟩
theorem own : ownKnob Try.prog.godebug = none := by kernel_rfl
theorem laidOut : laidOutB Try.prog = true := by kernel_rfl
set_option maxRecDepth 100000 in
theorem lifted (os : Os) (started : os.Started) (H : Type) (enc : TypeId × Value → H) :
    ReturnsInHanded {} Try.checked os 8 .any (Rows.inodeJoinsSpec.pre6 enc Try.prog Try.f8 Rows.inodeJoinsRow.domain false) (Rows.inodeJoinsSpec.post enc Try.prog Try.f8 false true false false) := by
  refine returnsInHanded_of_change (C := Try.checked) own started (by kernel_rfl) Try.func8
    (ChangeSpec.witness6 (enc := enc) (C := Try.checked) false ⟨#[], #[.agg #[.int .i64 0, .int .i64 0, .int .i64 0]], []⟩ 8 (by kernel_rfl) (by kernel_rfl) (by kernel_rfl) (by kernel_rfl)) ?_
  intro W base args ds gs before hval0 hW hcnd _
  have hval : ∀ (j : Nat) t v, Try.f8.params[j]? = some t → args[j]? = some v → Value.okWide Try.prog W .any base t v := hval0
  have hW' := hW
  obtain ⟨p, q, hA0, hV, rfl, hfz, hnd⟩ := hW
  have hA : DataW.TrodAll enc Try.prog W 0 (fun _ => true) true Try.f8.params.toList args.toList ds p := hA0
  rw [Try.params8] at hA hval
  obtain ⟨v0, vs0, d0, ds0, p0, q0, hargs, rfl, rfl, h0, r0⟩ := trodAll_cons hA
  obtain ⟨rfl, rfl, rfl⟩ := trodAll_nil r0
  obtain rfl : args = #[v0] := by cases args; simp_all
  obtain ⟨a0, b0, c0, rfl, w0, y0, z0⟩ := opens_int3 Try.underlying47 (by kernel_rfl) (by kernel_rfl) Try.underlying3 (hval 0 47 v0 rfl rfl) h0
  clear hA0 hval0
  refine (walk a0 b0 c0 W w0 y0 z0).mono fun e W' ⟨he, bel⟩ => ?_
  subst he
  exact ⟨_, rfl, law_post laidOut (by rw [Try.params8]; decide +kernel) rfl Try.underlying4 rfl hW' (fun _ => rfl) bel⟩
theorem over : Rows.inodeJoinsRow.holds Try.pinned (OpenSpec.ofChange Rows.inodeJoinsSpec) :=
  OpenClaim.holds_of_wide 8 Try.f8 rfl rfl rfl rfl rfl rfl rfl ⟨rfl, rfl, rfl, rfl, rfl⟩ rfl rfl rfl rfl rfl (by kernel_rfl) Try.func8 (by kernel_rfl)
    (of_decide_eq_true (by kernel_rfl)) (by unfold Func.isWrapper; first | (rw [if_pos (by decide +kernel)]; kernel_rfl) | (rw [if_neg (by decide +kernel)]; exact ⟨rfl, rfl⟩))
    (fun os started H enc _ => lifted os started H enc)
theorem proved : Rows.InodeJoinsSaid := over
end Go.Proofs.Ytdlbibhekoobjaa.inodeJoins
