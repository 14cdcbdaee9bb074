/- Giving back: the program's, at this translation. -/
import Derived.Test.YtoakjcmhmlngfaaLb17
namespace Go.Proofs.Ytoakjcmhmlngfaa
open Go.RowKit

theorem giveTo_none {l : Lay} {ys : List Int} : ∀ {xs : List Int} {M : List (List UInt8)}, giveTo l M xs = none → giveTo l M (xs ++ ys) = none
  | [], _, h => by cases h
  | x :: xs, M, h => by
    rw [List.cons_append, giveTo]
    rw [giveTo] at h
    split
    · rename_i hc
      rw [if_pos hc] at h
      exact giveTo_none h
    · rfl
theorem giveTo_snoc {l : Lay} {x : Int} {M' : List (List UInt8)} : ∀ {xs : List Int} {M : List (List UInt8)}, giveTo l M xs = some M' → giveTo l M (xs ++ [x]) = giveTo l M' [x]
  | [], M, h => by
    obtain rfl : M = M' := Option.some.inj h
    rfl
  | y :: ys, M, h => by
    rw [List.cons_append, giveTo]
    rw [giveTo] at h
    split
    · rename_i hc
      rw [if_pos hc] at h
      exact giveTo_snoc h
    · rename_i hc
      rw [if_neg hc] at h
      cases h
theorem zp_nat (l : Lay) (x : Int) : layZP l x = (-1, -1) ∨ ∃ z pl : Nat, z < 4 ∧ pl < zN l ∧ pl ≤ 4000 ∧ layZP l x = ((z : Int), (pl : Int)) ∧ layOk l = true ∧ x = l.f + z * l.z + pl := by
  rcases zp_cases l x with h | ⟨z, hz, h, hk, h1, h2⟩
  · exact .inl h
  · have := zN_of hk
    refine .inr ⟨z, (x - (l.f + z * l.z)).toNat, hz, by omega, by omega, ?_, hk, by omega⟩
    rw [h, show (((x - (l.f + z * l.z)).toNat : Nat) : Int) = x - (l.f + z * l.z) by omega]
theorem giveTo_one {l : Lay} {M : List (List UInt8)} {x : Int} {z pl : Nat} {s : List UInt8} (h : layZP l x = ((z : Int), (pl : Int))) (hs : M[z]? = some s) :
    giveTo l M [x] = if 2 ≤ pl ∧ Bm.bit s pl = true then some (M.set z (Bm.set s pl false)) else none := by
  have e1 : M.getD z [] = s := by rw [List.getD_eq_getElem?_getD, hs]; rfl
  rw [giveTo, h]
  simp only [Int.toNat_natCast, e1, Bm.bitI_nat]
  by_cases c : 2 ≤ pl ∧ Bm.bit s pl = true
  · rw [if_pos c, if_pos ⟨by omega, c.2⟩]; rfl
  · rw [if_neg c, if_neg (fun e => c ⟨by omega, e.2⟩)]
theorem giveTo_far {l : Lay} {M : List (List UInt8)} {x : Int} (h : layZP l x = (-1, -1)) : giveTo l M [x] = none := by
  rw [giveTo, h, if_neg (fun e => by have := e.1; simp at this)]
theorem giveTo_step {l : Lay} {M : List (List UInt8)} (h : RightM l M) {x : Int} {M' : List (List UInt8)} (he : giveTo l M [x] = some M') : RightM l M' := by
  rcases zp_nat l x with hz | ⟨z, pl, hz, _, _, hzp, _, _⟩
  · rw [giveTo_far hz] at he; cases he
  · have hlt : z < M.length := by rw [h.four]; exact hz
    have hs : M[z]? = some M[z] := List.getElem?_eq_getElem hlt
    rw [giveTo_one hzp hs] at he
    split at he
    · rename_i hc
      obtain rfl := Option.some.inj he
      refine ⟨h.ok, by rw [List.length_set]; exact h.four, fun s hm => ?_⟩
      rcases List.mem_or_eq_of_mem_set hm with hm | rfl
      · exact h.good s hm
      · exact (h.good _ (List.getElem_mem hlt)).given hc.1
    · cases he
/-- What Give answers. -/
def giveV (l : Lay) (M : List (List UInt8)) (xs : List Int) : List (List UInt8) × Bool :=
  if rightM l M then (match giveTo l M xs with
    | some M' => (M', true)
    | none => (M, false)) else (M, false)
theorem giveV_bad {l : Lay} {M : List (List UInt8)} {xs : List Int} (h : rightM l M = false) : giveV l M xs = (M, false) := by rw [giveV, h]; rfl
theorem giveV_none {l : Lay} {M : List (List UInt8)} {xs : List Int} (h : giveTo l M xs = none) : giveV l M xs = (M, false) := by rw [giveV, h]; simp
theorem giveV_some {l : Lay} {M M' : List (List UInt8)} {xs : List Int} (hr : rightM l M = true) (h : giveTo l M xs = some M') : giveV l M xs = (M', true) := by rw [giveV, hr, h]; rfl
/-- The rest of a list is not given where the one behind those that were is not. -/
theorem give_stop {l : Lay} {M Mj : List (List UInt8)} {xs : List Int} {j : Nat} {x : Int} (h : giveTo l M (xs.take j) = some Mj) (hx : xs[j]? = some x) (hn : giveTo l Mj [x] = none) : giveTo l M xs = none := by
  have h1 : giveTo l M (xs.take (j + 1)) = none := by
    obtain ⟨h1, e1⟩ := List.getElem?_eq_some_iff.1 hx
    rw [List.take_succ_eq_append_getElem h1, e1, giveTo_snoc h, hn]
  have := giveTo_none (ys := xs.drop (j + 1)) h1
  rwa [List.take_append_drop] at this
theorem give_on {l : Lay} {M Mj : List (List UInt8)} {xs : List Int} {j : Nat} {x : Int} (h : giveTo l M (xs.take j) = some Mj) (hx : xs[j]? = some x) : giveTo l M (xs.take (j + 1)) = giveTo l Mj [x] := by
  obtain ⟨h1, e1⟩ := List.getElem?_eq_some_iff.1 hx
  rw [List.take_succ_eq_append_getElem h1, e1, giveTo_snoc h]
structure Gave (w w' : World) (e : Ending) (M : List (List UInt8)) (t : Bool) : Prop where
  is : ∃ A n c, e = .returned (.tuple #[.slice A n c, .bool t]) ∧ RG w' 1 encT (.slice A n c) M ∧ (∀ g, blk (.slice A n c) = some g → w.heap.size ≤ g)
  below : Below w.heap.size w w'
theorem rowPut {w : World} {mb off c : Nat} {M : List (List UInt8)} (h : RG w 1 encT (.slice (some ⟨mb, off, none⟩) 4 c) M) {z : Nat} (hz : z < M.length) (s : List UInt8) : RG (w.setCell ⟨mb, off + z, none⟩ (.string (str s))) 1 encT (.slice (some ⟨mb, off, none⟩) 4 c) (M.set z s) := by
  have hr : RG (w.setCells mb (off + z * 1) (encT s)) 1 encT (.slice (some ⟨mb, off, none⟩) 4 c) (M.set z s) := RG.set encT_ok h hz s
  rw [Nat.mul_one] at hr
  exact hr
set_option maxRecDepth 100000 in
set_option maxHeartbeats 8000000 in
theorem Give_any (l : Lay) (A : Option Addr) (n c : Nat) (M : List (List UInt8)) (B : Option Addr) (k cb : Nat) (xs : List Int) (w : World) (h : IsG w 1 encT A n M) (hn : n ≤ 1000) (hA : A = none → n = 0 ∧ c = 0) (hs : ∀ s ∈ M, s.length ≤ 100000) (hx : IsG w 1 encI B k xs) (hwf : ∀ x ∈ xs, (Lit.int .i64 x).wf = true) :
    Calls Try.prog 11 #[l.v, .slice A n c, .slice B k cb] w fun e w' => Gave w w' e (giveV l M xs).1 (giveV l M xs).2 := by
  obtain ⟨W, p, HW, Hp, HL⟩ := layBoxed l w
  have Lw : Hid (Below w.heap.size w W) := Lib.hid HL.out.2
  have hG := Lib.hid (h.below HL.out.2)
  have HX := Lib.hid (hx.below HL.out.2)
  have Hlen := Lib.hid h.length
  have Hlx := Lib.hid hx.length
  have hsm := h.small
  have hsx := hx.small
  have Hwf := Lib.hid hwf
  clear h hx hwf
  cases hR : rightM l M with
  | false =>
    rw [giveV_bad hR]
    go_enter Try.func11, Try.ntmps11
    go_wp2_with fail
    rw [HW.out, Hp.out]
    refine (CloneS_any W A n c M hG.out hn hA).mono ?_
    rintro e w1 ⟨A1, c1, rfl, hr1, hn1, hb1⟩
    have C1 : Hid (RG w1 1 encT (.slice A1 n c1) M ∧ (∀ g, blk (.slice A1 n c1) = some g → W.heap.size ≤ g) ∧ Below W.heap.size W w1) := Lib.hid ⟨hr1, hn1, hb1⟩
    clear hr1 hn1 hb1
    obtain ⟨e0, e1, e2, e3⟩ := HL.out.1.below C1.out.2.2
    go_wp2_with fail
    refine (SRight_any l A n c M w1 (hG.out.below C1.out.2.2) hs).mono ?_
    rw [hR]
    rintro e w2 ⟨rfl, b2⟩
    have HT : Hid (Gave w w2 (.returned (.tuple #[.slice A1 n c1, .bool false])) M false) := Lib.hid ⟨⟨A1, n, c1, rfl, C1.out.1.below b2, fun g e => Nat.le_trans Lw.out.size (C1.out.2.1 g e)⟩, bnext Lw.out (bnext C1.out.2.2 b2)⟩
    clear b2
    go_wp2
    go_ret2
    exact HT.out
  | true =>
    have HR := Lib.hid (rightM_iff.1 hR)
    have n4 : n = 4 := by rw [← Hlen.out]; exact HR.out.four
    subst n4
    go_enter Try.func11, Try.ntmps11
    go_wp2_with fail
    rw [HW.out, Hp.out]
    refine (CloneS_any W A 4 c M hG.out hn hA).mono ?_
    rintro e w1 ⟨A1, c1, rfl, hr1, hn1, hb1⟩
    obtain ⟨mb, off, rfl, hmb, _⟩ := (hr1.is encT_ok).1.cells (by omega)
    have C1 : Hid (RG w1 1 encT (.slice (some ⟨mb, off, none⟩) 4 c1) M ∧ W.heap.size ≤ mb ∧ Below W.heap.size W w1) := Lib.hid ⟨hr1, hn1 mb rfl, hb1⟩
    clear hr1 hn1 hb1 hmb
    obtain ⟨e0, e1, e2, e3⟩ := HL.out.1.below C1.out.2.2
    go_wp2_with fail
    refine (SRight_any l A 4 c M w1 (hG.out.below C1.out.2.2) hs).mono ?_
    rw [hR]
    rintro e w2 ⟨rfl, b2⟩
    have D2 : Hid (RG w2 1 encT (.slice (some ⟨mb, off, none⟩) 4 c1) M ∧ Below W.heap.size W w2) := Lib.hid ⟨C1.out.1.below b2, bnext C1.out.2.2 b2⟩
    clear b2 e0 e1 e2 e3
    go_wp2_with fail
    go_loopw [22] (fun i wr => ∃ j : Nat, j ≤ k ∧ i = .int .i64 j ∧ Hid (∃ Mj, giveTo l M (xs.take j) = some Mj ∧ RightM l Mj ∧ RG wr 1 encT (.slice (some ⟨mb, off, none⟩) 4 c1) Mj ∧ Below W.heap.size W wr)) (fun i _ => k - (intOf i).toNat)
    case atStart => exact ⟨0, Nat.zero_le _, rfl, Lib.hid ⟨M, rfl, HR.out, D2.out⟩⟩
    case round =>
      obtain ⟨j, hj, rfl, HQ⟩ := hrel
      obtain ⟨Mj, HM⟩ : ∃ Mj, Hid (giveTo l M (xs.take j) = some Mj ∧ RightM l Mj ∧ RG wr 1 encT (.slice (some ⟨mb, off, none⟩) 4 c1) Mj ∧ Below W.heap.size W wr) := by
        obtain ⟨v, h⟩ := HQ.out
        exact ⟨v, Lib.hid h⟩
      clear HQ
      by_cases hlt : j < k
      · obtain ⟨x, Hx⟩ : ∃ a, Hid (xs[j]? = some a) := ⟨xs[j]'(by have := Hlx.out; omega), Lib.hid (List.getElem?_eq_getElem _)⟩
        have hxw := Hwf.out x (List.mem_of_getElem? Hx.out)
        obtain ⟨gx, ox, rfl, hgx, hcx⟩ := (HX.out.below HM.out.2.2.2).cells (by omega)
        have d0 := hcx j x 0 _ Hx.out rfl
        rw [Nat.mul_one, Nat.add_zero] at d0
        obtain ⟨e0, e1, e2, e3⟩ := HL.out.1.below HM.out.2.2.2
        have hpl := (HL.out.1.below HM.out.2.2.2).lt
        have q0 : ∀ y : In (Abv wr), y.u.cell? ⟨p, 0, none⟩ = some (.int .i64 l.s) := fun y => (y.is.cell (p := ⟨p, 0, none⟩) hpl).trans e0
        have q1 : ∀ y : In (Abv wr), y.u.cell? ⟨p, 1, none⟩ = some (.int .i64 l.n) := fun y => (y.is.cell (p := ⟨p, 1, none⟩) hpl).trans e1
        have q2 : ∀ y : In (Abv wr), y.u.cell? ⟨p, 2, none⟩ = some (.int .i64 l.f) := fun y => (y.is.cell (p := ⟨p, 2, none⟩) hpl).trans e2
        have q3 : ∀ y : In (Abv wr), y.u.cell? ⟨p, 3, none⟩ = some (.int .i64 l.z) := fun y => (y.is.cell (p := ⟨p, 3, none⟩) hpl).trans e3
        obtain ⟨zv, Hzv⟩ : ∃ t, Hid ((layZP l x).1 = t) := ⟨_, Lib.hid rfl⟩
        obtain ⟨pv, Hpv⟩ : ∃ t, Hid ((layZP l x).2 = t) := ⟨_, Lib.hid rfl⟩
        clear hcx
        go_wp2_with fail
        refine wp_region_mix (by kernel_rfl) (Cls (Abv wr)) [(0, 0), (1, 0), (3, 0), (4, 0), (2, 1), (5, 1), (6, 0), (7, 0)] (by kernel_rfl) (cls (Below.refl _ _).drew) ?_
        repeat (refine mix0 rfl (fun K hK => ?_); go_simp; refine hK _ ?_; clear hK K)
        refine mix1 rfl (fun K hK => ?_)
        go_simp
        refine (Zone_any l x hxw _).mono ?_
        rw [Hzv.out]
        rintro e w3 ⟨rfl, b3⟩
        have B3 : Hid (Below wr.heap.size wr w3) := Lib.hid ((Below.refl _ _).drew.trans (b3.mono (Nat.le_refl _)))
        refine ⟨_, rfl, hK _ _ (cls B3.out) ?_⟩
        clear hK K b3
        refine mix1 rfl (fun K hK => ?_)
        go_simp
        refine (Place_any l x hxw _).mono ?_
        rw [Hpv.out]
        rintro e w4 ⟨rfl, b4⟩
        have B4 : Hid (Below wr.heap.size wr w4) := Lib.hid (bnext B3.out b4)
        refine ⟨_, rfl, hK _ _ (cls B4.out) ?_⟩
        clear hK K b4
        repeat (refine mix0 rfl (fun K hK => ?_); go_simp; refine hK _ ?_; clear hK K)
        refine mixEnd ?_
        clear q0 q1 q2 q3 d0 e0 e1 e2 e3
        have D4 : Hid (RG w4 1 encT (.slice (some ⟨mb, off, none⟩) 4 c1) Mj ∧ Below W.heap.size W w4 ∧ IsG w4 1 encT A 4 M) := Lib.hid ⟨HM.out.2.2.1.below B4.out, bnext HM.out.2.2.2 B4.out, hG.out.below (bnext HM.out.2.2.2 B4.out)⟩
        have HNo : Hid (giveTo l Mj [x] = none → giveV l M xs = (M, false)) := Lib.hid (fun e => giveV_none (give_stop HM.out.1 Hx.out e))
        rcases zp_nat l x with hz | ⟨z, pl, hz, _, hpl4, hzp, _, _⟩
        · have HV := Lib.hid (HNo.out (giveTo_far hz))
          obtain rfl : pv = -1 := by rw [← Hpv.out, hz]
          clear hz
          go_wp2_with fail
          refine (CloneS_any w4 A 4 c M D4.out.2.2 hn hA).mono ?_
          rintro e w5 ⟨A5, c5, rfl, hr5, hn5, hb5⟩
          have HT : Hid (Gave w w5 (.returned (.tuple #[.slice A5 4 c5, .bool false])) M false) := Lib.hid ⟨⟨A5, 4, c5, rfl, hr5, fun g e => Nat.le_trans (bnext Lw.out D4.out.2.1).size (hn5 g e)⟩, bnext Lw.out (bnext D4.out.2.1 hb5)⟩
          clear hr5 hn5 hb5
          go_wp2
          go_ret2
          rw [HV.out]
          exact HT.out
        · obtain rfl : pv = (pl : Int) := by rw [← Hpv.out, hzp]
          obtain rfl : zv = (z : Int) := by rw [← Hzv.out, hzp]
          obtain ⟨s, Hs⟩ : ∃ a, Hid (Mj[z]? = some a) := ⟨Mj[z]'(by have := HM.out.2.1.four; omega), Lib.hid (List.getElem?_eq_getElem _)⟩
          have HO := Lib.hid (giveTo_one hzp Hs.out)
          clear hzp
          by_cases c2 : pl < 2
          · have HV := Lib.hid (HNo.out (by rw [HO.out, if_neg (fun e => by omega)]))
            have c2' : (pl : Int) < 2 := by omega
            go_wp2_with fail
            refine (CloneS_any w4 A 4 c M D4.out.2.2 hn hA).mono ?_
            rintro e w5 ⟨A5, c5, rfl, hr5, hn5, hb5⟩
            have HT : Hid (Gave w w5 (.returned (.tuple #[.slice A5 4 c5, .bool false])) M false) := Lib.hid ⟨⟨A5, 4, c5, rfl, hr5, fun g e => Nat.le_trans (bnext Lw.out D4.out.2.1).size (hn5 g e)⟩, bnext Lw.out (bnext D4.out.2.1 hb5)⟩
            clear hr5 hn5 hb5
            go_wp2
            go_ret2
            rw [HV.out]
            exact HT.out
          · have c2' : ¬ (pl : Int) < 2 := by omega
            have z0 : (0 : Int) ≤ (z : Int) := by omega
            have z1 : (z : Int) < 4 := by omega
            have hd := D4.out.1.cell encT_ok Hs.out (j := 0) rfl
            rw [Nat.mul_one, Nat.add_zero] at hd
            obtain ⟨d0, d1⟩ := hd
            have hml := lt_of_cell d0
            have hsl : s.length ≤ 100000 := by rw [(HM.out.2.1.good s (List.mem_of_getElem? Hs.out)).len]; exact Nat.le_trans (size_le _) (by decide)
            obtain ⟨b, Hb⟩ : ∃ b, Hid (Bm.bit s pl = b) := ⟨_, Lib.hid rfl⟩
            rw [Hb.out] at HO
            go_wp2_with fail
            refine (Has_any s hsl (pl : Int) _).mono ?_
            rw [Bm.bitI_nat, Hb.out]
            rintro e w5 ⟨rfl, rfl⟩
            cases b
            · have HV := Lib.hid (HNo.out (by rw [HO.out, if_neg (fun e => by cases e.2)]))
              go_wp2_with fail
              refine (CloneS_any w4 A 4 c M D4.out.2.2 hn hA).mono ?_
              rintro e w5 ⟨A5, c5, rfl, hr5, hn5, hb5⟩
              have HT : Hid (Gave w w5 (.returned (.tuple #[.slice A5 4 c5, .bool false])) M false) := Lib.hid ⟨⟨A5, 4, c5, rfl, hr5, fun g e => Nat.le_trans (bnext Lw.out D4.out.2.1).size (hn5 g e)⟩, bnext Lw.out (bnext D4.out.2.1 hb5)⟩
              clear hr5 hn5 hb5
              go_wp2
              go_ret2
              rw [HV.out]
              exact HT.out
            · have HO2 : Hid (giveTo l Mj [x] = some (Mj.set z (Bm.set s pl false))) := Lib.hid (by rw [HO.out, if_pos ⟨by omega, rfl⟩])
              go_wp2_with fail
              refine (Set_any s hsl (pl : Int) false _).mono ?_
              rw [Bm.setI_nat]
              rintro e w5 ⟨rfl, b5⟩
              have g0 : w5.cell? ⟨mb, off + z, none⟩ = some (.string (str s)) := (b5.cell (p := ⟨mb, off + z, none⟩) hml).trans d0
              have g1 : w5.frozen? ⟨mb, off + z, none⟩ = false := ((Mod.of_below (S := fun _ => False) b5).frozen (p := ⟨mb, off + z, none⟩) hml id).trans d1
              obtain ⟨s2, Hs2⟩ : ∃ t, Hid (Bm.set s pl false = t) := ⟨_, Lib.hid rfl⟩
              rw [Hs2.out] at HO2 ⊢
              have HF : Hid (giveTo l M (xs.take (j + 1)) = some (Mj.set z s2) ∧ RightM l (Mj.set z s2) ∧ RG (w5.setCell ⟨mb, off + z, none⟩ (.string (str s2))) 1 encT (.slice (some ⟨mb, off, none⟩) 4 c1) (Mj.set z s2) ∧ Below W.heap.size W (w5.setCell ⟨mb, off + z, none⟩ (.string (str s2)))) := Lib.hid (by
                have bW := bnext D4.out.2.1 b5
                exact ⟨by rw [give_on HM.out.1 Hx.out, HO2.out], giveTo_step HM.out.2.1 HO2.out, rowPut (D4.out.1.below b5) (by rw [HM.out.2.1.four]; exact hz) s2, ((Mod.refl (· = mb) w5).set1 (o := off + z) _).below bW bW.size (fun i e => by rw [e]; exact C1.out.2.1)⟩)
              clear b5 d0 d1
              go_wp2
              go_roundw
              case rel => exact ⟨j + 1, by omega, by go_num, Lib.hid ⟨_, HF.out⟩⟩
              case measure => simp [intOf]; omega
      · obtain rfl : j = k := by omega
        have HV : Hid (giveV l M xs = (Mj, true)) := Lib.hid (giveV_some hR (by have := HM.out.1; rwa [List.take_of_length_le (by have := Hlx.out; omega)] at this))
        have HT : Hid (Gave w wr (.returned (.tuple #[.slice (some ⟨mb, off, none⟩) 4 c1, .bool true])) Mj true) := Lib.hid ⟨⟨_, 4, c1, rfl, HM.out.2.2.1, fun g e => by cases e; exact Nat.le_trans Lw.out.size C1.out.2.1⟩, bnext Lw.out HM.out.2.2.2⟩
        go_wp2
        go_ret2
        rw [HV.out]
        exact HT.out
end Go.Proofs.Ytoakjcmhmlngfaa
