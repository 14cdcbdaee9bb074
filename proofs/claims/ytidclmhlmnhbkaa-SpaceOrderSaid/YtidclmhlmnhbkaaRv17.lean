/- Giving back: the document's, at this translation. -/
import Derived.Test.YtidclmhlmnhbkaaGv17
import Derived.Test.YtidclmhlmnhbkaaRt17
namespace Go.Proofs.Ytidclmhlmnhbkaa
open Go.RowKit

structure GaveX (w w' : World) (e : Ending) (M : List (List UInt8)) (t : Bool) : Prop where
  is : ∃ A n c, e = .returned (.tuple #[.slice A n c, .bool t]) ∧ IsG w' 1 encT A n M
  below : Below w.heap.size w w'
set_option maxRecDepth 100000 in
set_option maxHeartbeats 8000000 in
theorem YGive_any (l : Lay) (A : Option Addr) (n c : Nat) (M : List (List UInt8)) (B : Option Addr) (k cb : Nat) (xs : List Int) (w : World) (h : IsG w 1 encT A n M) (hs : ∀ s ∈ M, s.length ≤ 100000) (hx : IsG w 1 encI B k xs) (hwf : ∀ x ∈ xs, (Lit.int .i64 x).wf = true) :
    Calls Try.prog 19 #[l.v, .slice A n c, .slice B k cb] w fun e w' => GaveX w w' e (giveV l M xs).1 (giveV l M xs).2 := by
  obtain ⟨W, p, HW, Hp, HL⟩ := layBoxed l w
  have Lw : Hid (Below w.heap.size w W) := Lib.hid HL.out.2
  have hG := Lib.hid (h.below HL.out.2)
  have HX := Lib.hid (hx.below HL.out.2)
  have Hlen := Lib.hid h.length
  have Hlx := Lib.hid hx.length
  have hsm := h.small
  have hsx := hx.small
  have Hwf := Lib.hid hwf
  clear h hx hwf
  cases hR : rightM l M with
  | false =>
    rw [giveV_bad hR]
    obtain ⟨e0, e1, e2, e3⟩ := HL.out.1
    go_enter Try.func19, Try.ntmps19
    go_wp2_with fail
    rw [HW.out, Hp.out]
    refine (YRight_any l A n c M W hG.out hs).mono ?_
    rw [hR]
    rintro e w2 ⟨rfl, b2⟩
    have HT : Hid (GaveX w w2 (.returned (.tuple #[.slice A n c, .bool false])) M false) := Lib.hid ⟨⟨A, n, c, rfl, hG.out.below b2⟩, bnext Lw.out b2⟩
    clear b2
    go_wp2
    go_ret2
    exact HT.out
  | true =>
    have HR := Lib.hid (rightM_iff.1 hR)
    have n4 : n = 4 := by rw [← Hlen.out]; exact HR.out.four
    subst n4
    obtain ⟨g0, o0, rfl, _, _⟩ := hG.out.cells (by omega)
    obtain ⟨e0, e1, e2, e3⟩ := HL.out.1
    go_enter Try.func19, Try.ntmps19
    go_wp2_with fail
    rw [HW.out, Hp.out]
    refine (YRight_any l (some ⟨g0, o0, none⟩) 4 c M W hG.out hs).mono ?_
    rw [hR]
    rintro e w1 ⟨rfl, b1⟩
    obtain ⟨v2, w2, hr2, r2, a2⟩ := appG tInf encT_ok (RG.nil w1 1 encT) (c := c) (hG.out.below b1) (by simp) (by decide) 24
    have HR2 := Lib.hid hr2
    have D2 : Hid (RG w2 1 encT v2 M ∧ (∀ g, blk v2 = some g → W.heap.size ≤ g) ∧ Below W.heap.size W w2) := Lib.hid (by
      have hn0 : ∀ g, blk (.slice none 0 0) = some g → W.heap.size ≤ g := fun g e => by cases e
      refine ⟨r2, fun q e => ?_, a2.mod.below b1 b1.size hn0⟩
      rcases a2.blk with e2 | ⟨q2, e2, hq2⟩
      · exact hn0 q (e2 ▸ e)
      · rw [e2] at e
        obtain rfl := Option.some.inj e
        have := b1.size
        omega)
    obtain ⟨A6, c6, rfl⟩ : ∃ A6 c6, v2 = .slice A6 4 c6 := by
      obtain ⟨A6, c6, e⟩ := D2.out.1.shape
      exact ⟨A6, c6, by rw [e, Hlen.out]⟩
    obtain ⟨mb, off, rfl, _, _⟩ := (D2.out.1.is encT_ok).1.cells (by omega)
    have hmW : Hid (W.heap.size ≤ mb) := Lib.hid (D2.out.2.1 mb rfl)
    clear b1 hr2 r2 a2 e0 e1 e2 e3
    go_wp2_with (first | (at_builtin; refine wpList_append_run rfl (.tmp 20) (.tmp 21) 24 rfl (by exact HR2.out) ?_) | fail)
    go_loopw [10] (fun i wr => ∃ j : Nat, j ≤ k ∧ i = .int .i64 j ∧ Hid (∃ Mj, giveTo l M (xs.take j) = some Mj ∧ RightM l Mj ∧ RG wr 1 encT (.slice (some ⟨mb, off, none⟩) 4 c6) Mj ∧ Below W.heap.size W wr)) (fun i _ => k - (intOf i).toNat)
    case atStart => exact ⟨0, Nat.zero_le _, rfl, Lib.hid ⟨M, rfl, HR.out, D2.out.1, D2.out.2.2⟩⟩
    case round =>
      obtain ⟨j, hj, rfl, HQ⟩ := hrel
      obtain ⟨Mj, HM⟩ : ∃ Mj, Hid (giveTo l M (xs.take j) = some Mj ∧ RightM l Mj ∧ RG wr 1 encT (.slice (some ⟨mb, off, none⟩) 4 c6) Mj ∧ Below W.heap.size W wr) := by
        obtain ⟨v, h⟩ := HQ.out
        exact ⟨v, Lib.hid h⟩
      clear HQ
      by_cases hlt : j < k
      · obtain ⟨x, Hx⟩ : ∃ a, Hid (xs[j]? = some a) := ⟨xs[j]'(by have := Hlx.out; omega), Lib.hid (List.getElem?_eq_getElem _)⟩
        have hxw := Hwf.out x (List.mem_of_getElem? Hx.out)
        obtain ⟨gx, ox, rfl, hgx, hcx⟩ := (HX.out.below HM.out.2.2.2).cells (by omega)
        have d0 := hcx j x 0 _ Hx.out rfl
        rw [Nat.mul_one, Nat.add_zero] at d0
        clear hcx
        have hsj : Hid (∀ s ∈ Mj, s.length ≤ 100000) := Lib.hid (fun s hm => by rw [(HM.out.2.1.good s hm).len]; exact Nat.le_trans (size_le _) (by decide))
        obtain ⟨zv, Hzv⟩ : ∃ t, Hid ((layZP l x).1 = t) := ⟨_, Lib.hid rfl⟩
        obtain ⟨pv, Hpv⟩ : ∃ t, Hid ((layZP l x).2 = t) := ⟨_, Lib.hid rfl⟩
        obtain ⟨tk, Htk⟩ : ∃ t, Hid (takenM l Mj x = t) := ⟨_, Lib.hid rfl⟩
        have hjk : (j : Int) < (k : Int) := by omega
        obtain ⟨e0, e1, e2, e3⟩ := HL.out.1.below HM.out.2.2.2
        have hpl := (HL.out.1.below HM.out.2.2.2).lt
        have q0 : ∀ y : In (Abv wr), y.u.cell? ⟨p, 0, none⟩ = some (.int .i64 l.s) := fun y => (y.is.cell (p := ⟨p, 0, none⟩) hpl).trans e0
        have q1 : ∀ y : In (Abv wr), y.u.cell? ⟨p, 1, none⟩ = some (.int .i64 l.n) := fun y => (y.is.cell (p := ⟨p, 1, none⟩) hpl).trans e1
        have q2 : ∀ y : In (Abv wr), y.u.cell? ⟨p, 2, none⟩ = some (.int .i64 l.f) := fun y => (y.is.cell (p := ⟨p, 2, none⟩) hpl).trans e2
        have q3 : ∀ y : In (Abv wr), y.u.cell? ⟨p, 3, none⟩ = some (.int .i64 l.z) := fun y => (y.is.cell (p := ⟨p, 3, none⟩) hpl).trans e3
        have q4 : ∀ y : In (Abv wr), y.u.cell? ⟨gx, ox + j, none⟩ = some (.int .i64 x) := fun y => (y.is.cell (p := ⟨gx, ox + j, none⟩) (lt_of_cell d0)).trans d0
        go_wp2_with fail
        refine wp_region_mix (by kernel_rfl) (Cls (Abv wr)) [(0, 0), (1, 0), (2, 0), (3, 0), (4, 0), (5, 0), (6, 1), (7, 0)] (by kernel_rfl) (cls (Below.refl _ _).drew) ?_
        repeat (refine mix0 rfl (fun K hK => ?_); go_simp; refine hK _ ?_; clear hK K)
        refine mix1 rfl (fun K hK => ?_)
        go_simp
        refine (YTaken_any l (some ⟨mb, off, none⟩) 4 c6 Mj x hxw wr.drew ((HM.out.2.2.1.is encT_ok).1.below (Below.refl _ _).drew) hsj.out).mono ?_
        rw [Htk.out]
        rintro e w3 ⟨rfl, b3⟩
        have B3 : Hid (Below wr.heap.size wr w3) := Lib.hid ((Below.refl _ _).drew.trans (b3.mono (Nat.le_refl _)))
        refine ⟨_, rfl, hK _ _ (cls B3.out) ?_⟩
        clear hK K b3
        repeat (refine mix0 rfl (fun K hK => ?_); go_simp; refine hK _ ?_; clear hK K)
        refine mixEnd ?_
        clear q0 q1 q2 q3 q4 e0 e1 e2 e3 hpl
        have W3 : Hid (Below W.heap.size W w3) := Lib.hid (bnext HM.out.2.2.2 B3.out)
        have d3 : w3.cell? ⟨gx, ox + j, none⟩ = some (.int .i64 x) := (B3.out.cell (p := ⟨gx, ox + j, none⟩) (lt_of_cell d0)).trans d0
        obtain ⟨e0, e1, e2, e3⟩ := HL.out.1.below W3.out
        have hpl := (HL.out.1.below W3.out).lt
        have q0 : ∀ y : In (Abv w3), y.u.cell? ⟨p, 0, none⟩ = some (.int .i64 l.s) := fun y => (y.is.cell (p := ⟨p, 0, none⟩) hpl).trans e0
        have q1 : ∀ y : In (Abv w3), y.u.cell? ⟨p, 1, none⟩ = some (.int .i64 l.n) := fun y => (y.is.cell (p := ⟨p, 1, none⟩) hpl).trans e1
        have q2 : ∀ y : In (Abv w3), y.u.cell? ⟨p, 2, none⟩ = some (.int .i64 l.f) := fun y => (y.is.cell (p := ⟨p, 2, none⟩) hpl).trans e2
        have q3 : ∀ y : In (Abv w3), y.u.cell? ⟨p, 3, none⟩ = some (.int .i64 l.z) := fun y => (y.is.cell (p := ⟨p, 3, none⟩) hpl).trans e3
        have q4 : ∀ y : In (Abv w3), y.u.cell? ⟨gx, ox + j, none⟩ = some (.int .i64 x) := fun y => (y.is.cell (p := ⟨gx, ox + j, none⟩) (lt_of_cell d3)).trans d3
        go_wp2_with fail
        refine wp_region_mix (by kernel_rfl) (Cls (Abv w3)) [(0, 0), (1, 0), (2, 0), (3, 0), (4, 0), (5, 1), (6, 0)] (by kernel_rfl) (cls (Below.refl _ _).drew) ?_
        repeat (refine mix0 rfl (fun K hK => ?_); go_simp; refine hK _ ?_; clear hK K)
        refine mix1 rfl (fun K hK => ?_)
        go_simp
        refine (XPlace_any l x hxw _).mono ?_
        rw [Hpv.out]
        rintro e w4 ⟨rfl, b3⟩
        have B4 : Hid (Below w3.heap.size w3 w4) := Lib.hid ((Below.refl _ _).drew.trans (b3.mono (Nat.le_refl _)))
        refine ⟨_, rfl, hK _ _ (cls B4.out) ?_⟩
        clear hK K b3
        repeat (refine mix0 rfl (fun K hK => ?_); go_simp; refine hK _ ?_; clear hK K)
        refine mixEnd ?_
        clear q0 q1 q2 q3 q4 e0 e1 e2 e3 hpl
        have W4 : Hid (Below W.heap.size W w4) := Lib.hid (bnext W3.out B4.out)
        have D4 : Hid (RG w4 1 encT (.slice (some ⟨mb, off, none⟩) 4 c6) Mj ∧ Below W.heap.size W w4 ∧ IsG w4 1 encT (some ⟨g0, o0, none⟩) 4 M) := Lib.hid ⟨(HM.out.2.2.1.below B3.out).below B4.out, W4.out, hG.out.below W4.out⟩
        have d4 : w4.cell? ⟨gx, ox + j, none⟩ = some (.int .i64 x) := (B4.out.cell (p := ⟨gx, ox + j, none⟩) (lt_of_cell d3)).trans d3
        have HNo : Hid (giveTo l Mj [x] = none → giveV l M xs = (M, false)) := Lib.hid (fun e => giveV_none (give_stop HM.out.1 Hx.out e))
        have hRj : rightM l Mj = true := rightM_iff.2 HM.out.2.1
        clear d0 d3
        rcases zp_nat l x with hz | ⟨z, pl, hz, -, hpl4, hzp, -, -⟩
        · have HV := Lib.hid (HNo.out (giveTo_far hz))
          obtain rfl : pv = -1 := by rw [← Hpv.out, hz]
          obtain rfl : tk = false := by rw [← Htk.out, takenM, hz]; simp
          clear hz
          have HT : Hid (GaveX w w4 (.returned (.tuple #[.slice (some ⟨g0, o0, none⟩) 4 c, .bool false])) M false) := Lib.hid ⟨⟨_, 4, c, rfl, D4.out.2.2⟩, bnext Lw.out D4.out.2.1⟩
          go_wp2
          go_ret2
          rw [HV.out]
          exact HT.out
        · obtain rfl : pv = (pl : Int) := by rw [← Hpv.out, hzp]
          obtain rfl : zv = (z : Int) := by rw [← Hzv.out, hzp]
          obtain ⟨s, Hs⟩ : ∃ a, Hid (Mj[z]? = some a) := ⟨Mj[z]'(by have := HM.out.2.1.four; omega), Lib.hid (List.getElem?_eq_getElem _)⟩
          have HO := Lib.hid (giveTo_one hzp Hs.out)
          have Ht2 : Hid (tk = Bm.bit s pl) := Lib.hid (by
            rw [← Htk.out, takenM, hRj, hzp]
            simp [Hs.out, Bm.bitI_nat])
          clear hzp
          cases tk
          · have HV := Lib.hid (HNo.out (by rw [HO.out, if_neg (fun e => by rw [← Ht2.out] at e; cases e.2)]))
            have HT : Hid (GaveX w w4 (.returned (.tuple #[.slice (some ⟨g0, o0, none⟩) 4 c, .bool false])) M false) := Lib.hid ⟨⟨_, 4, c, rfl, D4.out.2.2⟩, bnext Lw.out D4.out.2.1⟩
            go_wp2
            go_ret2
            rw [HV.out]
            exact HT.out
          · by_cases c2 : pl < 2
            · have HV := Lib.hid (HNo.out (by rw [HO.out, if_neg (fun e => by omega)]))
              have c2' : (pl : Int) < 2 := by omega
              have HT : Hid (GaveX w w4 (.returned (.tuple #[.slice (some ⟨g0, o0, none⟩) 4 c, .bool false])) M false) := Lib.hid ⟨⟨_, 4, c, rfl, D4.out.2.2⟩, bnext Lw.out D4.out.2.1⟩
              go_wp2
              go_ret2
              rw [HV.out]
              exact HT.out
            · have c2' : ¬ (pl : Int) < 2 := by omega
              have z0 : (0 : Int) ≤ (z : Int) := by omega
              have z1 : (z : Int) < 4 := by omega
              have hsl := hsj.out s (List.mem_of_getElem? Hs.out)
              have HO2 : Hid (giveTo l Mj [x] = some (Mj.set z (Bm.set s pl false))) := Lib.hid (by rw [HO.out, if_pos ⟨by omega, Ht2.out.symm⟩])
              obtain ⟨e0, e1, e2, e3⟩ := HL.out.1.below W4.out
              have hpl := (HL.out.1.below W4.out).lt
              have q0 : ∀ y : In (Abv w4), y.u.cell? ⟨p, 0, none⟩ = some (.int .i64 l.s) := fun y => (y.is.cell (p := ⟨p, 0, none⟩) hpl).trans e0
              have q1 : ∀ y : In (Abv w4), y.u.cell? ⟨p, 1, none⟩ = some (.int .i64 l.n) := fun y => (y.is.cell (p := ⟨p, 1, none⟩) hpl).trans e1
              have q2 : ∀ y : In (Abv w4), y.u.cell? ⟨p, 2, none⟩ = some (.int .i64 l.f) := fun y => (y.is.cell (p := ⟨p, 2, none⟩) hpl).trans e2
              have q3 : ∀ y : In (Abv w4), y.u.cell? ⟨p, 3, none⟩ = some (.int .i64 l.z) := fun y => (y.is.cell (p := ⟨p, 3, none⟩) hpl).trans e3
              have q4 : ∀ y : In (Abv w4), y.u.cell? ⟨gx, ox + j, none⟩ = some (.int .i64 x) := fun y => (y.is.cell (p := ⟨gx, ox + j, none⟩) (lt_of_cell d4)).trans d4
              go_wp2_with fail
              refine wp_region_mix (by kernel_rfl) (Cls (Abv w4)) [(0, 0), (1, 0), (2, 0), (3, 0), (4, 0), (5, 1), (6, 0)] (by kernel_rfl) (cls (Below.refl _ _).drew) ?_
              repeat (refine mix0 rfl (fun K hK => ?_); go_simp; refine hK _ ?_; clear hK K)
              refine mix1 rfl (fun K hK => ?_)
              go_simp
              have hcz := XZone_any l x hxw w4.drew
              rw [Hzv.out] at hcz
              refine hcz.mono ?_
              clear hcz
              rintro e w6 ⟨rfl, b3⟩
              have B6 : Hid (Below w4.heap.size w4 w6) := Lib.hid ((Below.refl _ _).drew.trans (b3.mono (Nat.le_refl _)))
              refine ⟨_, rfl, hK _ _ (cls B6.out) ?_⟩
              clear hK K b3
              repeat (refine mix0 rfl (fun K hK => ?_); go_simp; refine hK _ ?_; clear hK K)
              refine mixEnd ?_
              clear q0 q1 q2 q3 q4 e0 e1 e2 e3 hpl
              have hd := (D4.out.1.below B6.out).cell encT_ok Hs.out (j := 0) rfl
              rw [Nat.mul_one, Nat.add_zero] at hd
              obtain ⟨d0, d1⟩ := hd
              have hml := lt_of_cell d0
              go_wp2_with fail
              refine (XSet_any s hsl (pl : Int) (by omega) false _).mono ?_
              rw [Bm.setI_nat]
              rintro e w5 ⟨rfl, b5⟩
              have g0 : w5.cell? ⟨mb, off + z, none⟩ = some (.string (str s)) := (b5.cell (p := ⟨mb, off + z, none⟩) hml).trans d0
              have g1 : w5.frozen? ⟨mb, off + z, none⟩ = false := ((Mod.of_below (S := fun _ => False) b5).frozen (p := ⟨mb, off + z, none⟩) hml id).trans d1
              obtain ⟨s2, Hs2⟩ : ∃ t, Hid (Bm.set s pl false = t) := ⟨_, Lib.hid rfl⟩
              rw [Hs2.out] at HO2 ⊢
              have HF : Hid (giveTo l M (xs.take (j + 1)) = some (Mj.set z s2) ∧ RightM l (Mj.set z s2) ∧ RG (w5.setCell ⟨mb, off + z, none⟩ (.string (str s2))) 1 encT (.slice (some ⟨mb, off, none⟩) 4 c6) (Mj.set z s2) ∧ Below W.heap.size W (w5.setCell ⟨mb, off + z, none⟩ (.string (str s2)))) := Lib.hid (by
                have bW := bnext (bnext W4.out B6.out) b5
                exact ⟨by rw [give_on HM.out.1 Hx.out, HO2.out], giveTo_step HM.out.2.1 HO2.out, rowPut ((D4.out.1.below B6.out).below b5) (by rw [HM.out.2.1.four]; exact hz) s2, ((Mod.refl (· = mb) w5).set1 (o := off + z) _).below bW bW.size (fun i e => by rw [e]; exact hmW.out)⟩)
              clear b5 d0 d1 d4
              go_wp2
              go_roundw
              case rel => exact ⟨j + 1, by omega, by go_num, Lib.hid ⟨_, HF.out⟩⟩
              case measure => simp [intOf]; omega
      · obtain rfl : j = k := by omega
        have HV : Hid (giveV l M xs = (Mj, true)) := Lib.hid (giveV_some hR (by have := HM.out.1; rwa [List.take_of_length_le (by have := Hlx.out; omega)] at this))
        have HT : Hid (GaveX w wr (.returned (.tuple #[.slice (some ⟨mb, off, none⟩) 4 c6, .bool true])) Mj true) := Lib.hid ⟨⟨_, 4, c6, rfl, (HM.out.2.2.1.is encT_ok).1⟩, bnext Lw.out HM.out.2.2.2⟩
        go_wp2
        go_ret2
        rw [HV.out]
        exact HT.out
end Go.Proofs.Ytidclmhlmnhbkaa
