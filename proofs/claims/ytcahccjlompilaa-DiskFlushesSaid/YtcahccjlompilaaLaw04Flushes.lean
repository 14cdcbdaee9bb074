/- Flushed, the last write of each sector lies there, and all others are as they were; the cache is empty: DiskFlushes. -/
import Derived.Test.YtcahccjlompilaaRows
import Derived.Test.YtcahccjlompilaaFinal04
import Derived.Deep.DeepCutAuto
namespace Go.Proofs.Ytcahccjlompilaa.diskFlushes
open Go.RowKit Go.ChangeShapes Go.WideShapes Go.ChangeAt
open Go.ChangeMaps (open_string shut_string)

/-- What holds at each round's head. -/
structure Flu (W w : World) (b q p m : Nat) (s : DS) : Prop where
  own : Own W w b m s (fun g => g = q ∨ g = p)
  four : s.lies.length = 4
  key : s.keys 1 = 1
  lies : Four w q s.lies
  last : Four w p (allOf s.lies (s.caches 1))
theorem list4 {α : Type} (l : List α) (h : l.length = 4) : ∃ a b c d, l = [a, b, c, d] := by
  match l, h with
  | [a, b, c, d], _ => exact ⟨a, b, c, d, rfl⟩
theorem Flu.below {W w w' : World} {b q p m : Nat} {s : DS} (h : Flu W w b q p m s) (k : Below w.heap.size w w') : Flu W w' b q p m s :=
  ⟨h.own.later k, h.four, h.key, h.lies.below k, h.last.below k⟩
theorem Flu.wrote {W w w' : World} {b q p m j : Nat} {s : DS} {l : List UInt8} (h4 : s.lies.length = 4) (hk : s.keys 1 = 1) (hF : Four w q s.lies) (hG : Four w p ((allOf s.lies (s.caches 1)).set j l)) (h : Own W w' b m (s.cacheTo 1 (s.caches 1 ++ [(j, l)])) (fun g => g = q ∨ g = p)) (hl : Left W (fun g => g = q ∨ g = p) w w') :
    Flu W w' b q p m (s.cacheTo 1 (s.caches 1 ++ [(j, l)])) := by
  have e : (s.cacheTo 1 (s.caches 1 ++ [(j, l)])).caches 1 = s.caches 1 ++ [(j, l)] := by simp [DS.cacheTo]
  refine ⟨h, h4, hk, hF.left hl (.inl rfl), ?_⟩
  rw [e]
  show Four w' p (allOf s.lies (s.caches 1 ++ [(j, l)]))
  rw [allOf_snoc]
  exact hG.left hl (.inr rfl)
theorem Flu.read {W w : World} {b q p m : Nat} {s : DS} (h : Flu W w b q p m s) {i : Nat} (hi : i < 4) : readS s 1 i = (allOf s.lies (s.caches 1)).getD i [] := readS_all (by rw [h.four]; exact hi)
theorem Flu.peek {W w : World} {b q p m : Nat} {s : DS} (h : Flu W w b q p m s) {i : Nat} (hi : i < 4) : lieI s (i : Int) = s.lies.getD i [] := by
  have hl : i < s.lies.length := by rw [h.four]; exact hi
  rw [lieI_nat hl, List.getD_eq_getElem?_getD, List.getElem?_eq_getElem hl]; rfl
set_option maxRecDepth 100000 in
set_option maxHeartbeats 2000000 in
theorem walk (x0 : Option Addr) (len0 cap0 : Nat) (a0 : Nat → OpV) (a1 : Int) (w : World) (w0 : IsOps w x0 len0 a0) (y0 : len0 ≤ cap0) (w1 : (Lit.int .i64 a1).wf = true) :
    Calls Try.prog 8 #[.slice x0 len0 cap0, .int .i64 a1] w fun e w' => e = .returned (.bool true) ∧ Below w.heap.size w w' := by
  have hn1 := bounds_i64 w1
  clear w1 y0
  have hm0 : len0 ≤ 9223372036854775807 := w0.max
  have Hc0 := Lib.hid w0.cells
  clear w0
  have hmk := fun w => mkn w 512 (by omega) (by omega)
  have hcv : ∀ w : World, _ := fun w => cvn w 512
  rw [show List.replicate 512 (0 : UInt8) = zero512 from rfl] at hcv
  go_enter Try.func8, Try.ntmps8
  go_wp2_with fail
  refine (awake_any _).mono ?_
  rintro e w2 ⟨rfl, hb2⟩
  have Hb2 := Lib.hid hb2
  clear hb2
  go_wp2_with fail
  refine (New_own w 4 (by decide) Hb2.out).mono ?_
  rintro e w3 ⟨b, rfl, h3, _⟩
  have H3 := Lib.hid h3
  clear h3
  go_wp2_with fail
  refine (Register_own H3.out (by decide) (by omega)).mono ?_
  rw [show regE (DS.new (sectorsN 4)) 1 = 0 from rfl]
  rintro e w4 ⟨rfl, h4, _⟩
  have H4 := Lib.hid h4
  clear h4
  go_upto_block 0 with (fail)
  obtain ⟨w5, Hw5⟩ : ∃ w5, Hid (w4.alloc (zeroObj 512) = w5) := ⟨_, Lib.hid rfl⟩
  have H5 : Hid (Own w w5 b 1 (regS (DS.new (sectorsN 4)) 1) (fun _ => False)) := Lib.hid (by rw [← Hw5.out]; exact H4.out.later ((Below.refl _ _).alloc (Nat.le_refl _) _))
  obtain ⟨q, Hq⟩ : ∃ q, Hid (w4.heap.size + 1 = q) := ⟨_, Lib.hid rfl⟩
  have hq5 : w5.heap.size = q := by rw [← Hw5.out, ← Hq.out]; simp
  rw [Hw5.out, Hq.out]
  obtain ⟨w6, Hw6⟩ : ∃ w6, Hid (w5.alloc (.cells #[.string (str zero512), .string (str zero512), .string (str zero512), .string (str zero512)] 58) = w6) := ⟨_, Lib.hid rfl⟩
  have hq6 : w6.heap.size = q + 1 := by rw [← Hw6.out]; simp [hq5]
  obtain ⟨w7, Hw7⟩ : ∃ w7, Hid (w6.alloc (.cells #[.string (str zero512), .string (str zero512), .string (str zero512), .string (str zero512)] 58) = w7) := ⟨_, Lib.hid rfl⟩
  have hO7 : Own w w7 b 1 (regS (DS.new (sectorsN 4)) 1) (fun g => g = q ∨ g = q + 1) := by
    have h := (H5.out.alloc (.cells #[.string (str zero512), .string (str zero512), .string (str zero512), .string (str zero512)] 58))
    rw [Hw6.out, hq5] at h
    have h := h.alloc (.cells #[.string (str zero512), .string (str zero512), .string (str zero512), .string (str zero512)] 58)
    rw [Hw7.out, hq6] at h
    exact h.weak (fun g hg => hg.elim (fun h => .inl (.inr h)) .inr)
  have hF6 : Four w6 q [zero512, zero512, zero512, zero512] := by
    have h := Four.made w5 zero512 zero512 zero512 zero512 58
    rwa [hq5, Hw6.out] at h
  have hF7 : Four w7 q [zero512, zero512, zero512, zero512] := hF6.below (by rw [← Hw7.out]; exact (Below.refl _ _).alloc (Nat.le_refl _) _)
  have hG7 : Four w7 (q + 1) [zero512, zero512, zero512, zero512] := by
    have h := Four.made w6 zero512 zero512 zero512 zero512 58
    rwa [hq6, Hw7.out] at h
  have HI : Hid (Flu w w7 b q (q + 1) 1 (regS (DS.new (sectorsN 4)) 1)) := Lib.hid ⟨hO7, rfl, rfl, hF7, hG7⟩
  have HqW : Hid (w.heap.size ≤ q) := Lib.hid (by rw [← hq5]; exact H5.out.below.size)
  clear hO7 hF6 hF7 hG7 hq5 hq6
  rw [Hw6.out, Hw7.out]
  go_cut [10] (fun _ wx => ∃ (m : Nat) (s : DS), m ≤ 30 ∧ Hid (Flu w wx b q (q + 1) m s))
  case first =>
    go_wp2
    go_loopw [10] (fun v wr => ∃ (k m : Nat) (s : DS), v = .int .i64 (k : Int) ∧ k ≤ len0 ∧ k ≤ 20 ∧ m ≤ k + 1 ∧ Hid (Flu w wr b q (q + 1) m s)) (fun v _ => len0 - (intOf v).toNat)
    case atStart => exact ⟨0, 1, _, rfl, Nat.zero_le _, by omega, by omega, HI⟩
    case round =>
      obtain ⟨k, m, s, rfl, hk, hk20, hmk, Hf⟩ := hrel
      by_cases hlt : k < len0 ∧ k < 20
      · obtain ⟨hlt, h20⟩ := hlt
        obtain ⟨xb, off, rfl, hop⟩ := Hc0.out (by omega)
        have hopk := (hop k hlt).below Hf.out.own.below
        have xs := hopk.sector
        have xb' := hopk.byte
        obtain ⟨j, Hj, hj4⟩ := and3 (a0 k).sector hopk.wsector
        obtain ⟨x, Hx⟩ : ∃ x, Hid ((a0 k).byte = x) := ⟨_, Lib.hid rfl⟩
        rw [Hx.out] at xb'
        have Hopk := Lib.hid hopk
        clear hop hopk
        go_wp2_with fail
        rw [Hj.out]
        refine (sector_any x _).mono ?_
        rintro e w8 ⟨rfl, hb8⟩
        have hF8 := Hf.out.lies.below hb8
        have hG8 := Hf.out.last.below hb8
        have HO8 := Lib.hid (Hf.out.own.later hb8)
        have cj := hG8.cell j hj4
        have fj := hG8.free j hj4
        have HF9 := Lib.hid (hF8.other (q' := q + 1) (o := j) (v := .string (str (sec x))) (by omega))
        have HG9 := Lib.hid (hG8.set j (sec x))
        have HO9 := Lib.hid (HO8.out.set (q := q + 1) (o := j) (.inr rfl) (by have := HqW.out; omega) (.string (str (sec x))))
        have hj4' : (j : Int) < 4 := by omega
        clear hb8 hF8 hG8
        go_wp2_with fail
        have hb9 := HO9.out.fine.small
        refine (Write_own (i := j) HO9.out (by decide) (by rw [Hf.out.four]; exact hj4) (sec_length _) Hf.out.key (by omega)).mono ?_
        rintro e w10 ⟨rfl, h10, hl10⟩
        have H10 := Lib.hid (Flu.wrote Hf.out.four Hf.out.key HF9.out HG9.out h10 hl10)
        clear h10 hl10
        obtain ⟨s', Hs'⟩ : ∃ s', Hid (s.cacheTo 1 (s.caches 1 ++ [(j, sec x)]) = s') := ⟨_, Lib.hid rfl⟩
        rw [Hs'.out] at H10
        by_cases hbeh : (k : Int) = a1
        · have hbe : ((k : Int) == a1) = true := beq_yes hbeh
          clear hbeh
          go_wp2_with fail
          refine (Flush_own H10.out.own (by decide) H10.out.key).mono ?_
          rintro e w11 ⟨rfl, h11, hl11⟩
          have h4' : (allOf s'.lies (s'.caches 1)).length = 4 := by rw [allOf_length]; exact H10.out.four
          have hF11 := H10.out.lies.left hl11 (.inl rfl)
          have hG11 := H10.out.last.left hl11 (.inr rfl)
          have HO11 := Lib.hid h11
          clear h11 hl11
          go_wp2_with fail
          refine (Cached_own HO11.out (by decide)).mono ?_
          rw [show ((s'.settle 1 (fun _ => true)).caches 1).length = 0 from rfl]
          rintro e w12 ⟨rfl, rfl⟩
          obtain ⟨l0, l1, l2, l3, hL⟩ := list4 _ h4'
          obtain ⟨k0, k1, k2, k3, hK⟩ := list4 _ hF11.length
          have HL := Lib.hid hL
          rw [hL] at hG11
          rw [hK] at hF11
          have c0 : w11.cell? ⟨q + 1, 0, none⟩ = some (.string (str l0)) := hG11.cell 0 (by omega)
          have c1 : w11.cell? ⟨q + 1, 1, none⟩ = some (.string (str l1)) := hG11.cell 1 (by omega)
          have c2 : w11.cell? ⟨q + 1, 2, none⟩ = some (.string (str l2)) := hG11.cell 2 (by omega)
          have c3 : w11.cell? ⟨q + 1, 3, none⟩ = some (.string (str l3)) := hG11.cell 3 (by omega)
          have d0 : w11.cell? ⟨q, 0, none⟩ = some (.string (str k0)) := hF11.cell 0 (by omega)
          have d1 : w11.cell? ⟨q, 1, none⟩ = some (.string (str k1)) := hF11.cell 1 (by omega)
          have d2 : w11.cell? ⟨q, 2, none⟩ = some (.string (str k2)) := hF11.cell 2 (by omega)
          have d3 : w11.cell? ⟨q, 3, none⟩ = some (.string (str k3)) := hF11.cell 3 (by omega)
          have f0 := hF11.free 0 (by omega)
          have f1 := hF11.free 1 (by omega)
          have f2 := hF11.free 2 (by omega)
          have f3 := hF11.free 3 (by omega)
          have HF11 := Lib.hid hF11
          have HG11 := Lib.hid hG11
          clear hL hK hF11 hG11 h4'
          go_wp2
          have e4 : (((([k0, k1, k2, k3].set 0 l0).set 1 l1).set 2 l2).set 3 l3) = [l0, l1, l2, l3] := rfl
          have hq1 : ¬ (q + 1 = q) := by omega
          have hFn := (((HF11.out.set 0 l0).set 1 l1).set 2 l2).set 3 l3
          rw [e4] at hFn
          have hGn := (((HG11.out.other (q' := q) (o := 0) (v := .string (str l0)) (by omega)).other (q' := q) (o := 1) (v := .string (str l1)) (by omega)).other (q' := q) (o := 2) (v := .string (str l2)) (by omega)).other (q' := q) (o := 3) (v := .string (str l3)) (by omega)
          have hOn := (((HO11.out.set (q := q) (o := 0) (.inl rfl) HqW.out (.string (str l0))).set (q := q) (o := 1) (.inl rfl) HqW.out (.string (str l1))).set (q := q) (o := 2) (.inl rfl) HqW.out (.string (str l2))).set (q := q) (o := 3) (.inl rfl) HqW.out (.string (str l3))
          have HN : Hid (Flu w ((((w11.setCell ⟨q, 0, none⟩ (.string (str l0))).setCell ⟨q, 1, none⟩ (.string (str l1))).setCell ⟨q, 2, none⟩ (.string (str l2))).setCell ⟨q, 3, none⟩ (.string (str l3))) b q (q + 1) (m + 1) (s'.settle 1 (fun _ => true))) := Lib.hid ⟨hOn, by rw [settle_all, allOf_length]; exact H10.out.four, H10.out.key, by rw [settle_all, HL.out]; exact hFn, by
            rw [settle_all, HL.out]; exact hGn⟩
          go_roundw
          case rel => exact ⟨k + 1, m + 1, _, by go_num, by omega, by omega, by omega, HN⟩
          case measure => simp [intOf]; omega
        · have hbe : ((k : Int) == a1) = false := beq_no hbeh
          clear hbeh
          go_wp2
          go_roundw
          case rel => exact ⟨k + 1, m + 1, _, by go_num, by omega, by omega, by omega, H10⟩
          case measure => simp [intOf]; omega
      · have hd : len0 ≤ k ∨ (k < len0 ∧ 20 ≤ k) := by omega
        clear hlt
        rcases hd with hd | ⟨hd, hd20⟩
        all_goals
          go_wp2
          go_meet
          case rel => exact ⟨m, s, by omega, Hf⟩
  case rest =>
  obtain ⟨m, s, hm30, Hf⟩ := hcut
  go_wp2_with fail
  go_loopw [12] (fun v wr2 => ∃ i : Nat, v = .int .i64 (i : Int) ∧ i ≤ 4 ∧ Hid (Flu w wr2 b q (q + 1) m s)) (fun v _ => 4 - (intOf v).toNat)
  case atStart => exact ⟨0, rfl, by omega, Hf⟩
  case round =>
    obtain ⟨i, rfl, hi4, Hg⟩ := hrel
    by_cases hilt : i < 4
    · have hrd := Hg.out.read hilt
      have hpk := Hg.out.peek hilt
      have ci := Hg.out.lies.cell i hilt
      have di := Hg.out.last.cell i hilt
      obtain ⟨y, Hy⟩ : ∃ y, Hid (s.lies.getD i [] = y) := ⟨_, Lib.hid rfl⟩
      obtain ⟨z, Hz⟩ : ∃ z, Hid ((allOf s.lies (s.caches 1)).getD i [] = z) := ⟨_, Lib.hid rfl⟩
      rw [Hz.out] at hrd di
      rw [Hy.out] at hpk ci
      have Hrd := Lib.hid hrd
      have Hpk := Lib.hid hpk
      have Hci := Lib.hid ci
      have Hdi := Lib.hid di
      have i4' : (i : Int) < 4 := by omega
      clear hrd hpk ci di
      go_wp2_with fail
      refine (Read_own Hg.out.own (by decide) (by rw [Hg.out.four]; exact hilt) Hg.out.key).mono ?_
      rw [Hrd.out]
      rintro e w12 ⟨rfl, hb12⟩
      have HG := Lib.hid (Hg.out.below hb12)
      have ci := (hb12.cell (p := ⟨q, i, none⟩) Hg.out.lies.lt).trans Hci.out
      have di := (hb12.cell (p := ⟨q + 1, i, none⟩) Hg.out.last.lt).trans Hdi.out
      have HPq : Hid (∀ n, Calls Try.prog 22 #[.pointer (some ⟨b, 0, none⟩), .int .i64 (i : Int)] (w12.drewN n) fun e w' => e = .returned (.string (str y)) ∧ w' = w12.drewN n) := Lib.hid fun n => by
        have := Peek_own (HG.out.own.later (below_drewN w12 n)) (i : Int)
        rw [Hpk.out] at this
        exact this.mono fun e w' ⟨he, hw⟩ => ⟨he, hw.symm⟩
      have i0' : 0 ≤ (i : Int) := by omega
      clear hb12
      go_wp2
      go_quiet ((go_at_call 22; exact Calls.quiet_of_same (HPq.out _)))
      go_wp2
      go_roundw
      case rel => exact ⟨i + 1, by go_num, by omega, Lib.hid (HG.out.below (below_drewN _ _))⟩
      case measure => simp [intOf]; omega
    · obtain rfl : i = 4 := by omega
      obtain ⟨l0, l1, l2, l3, hL⟩ := list4 _ (show (allOf s.lies (s.caches 1)).length = 4 by rw [allOf_length]; exact Hg.out.four)
      have HL := Lib.hid hL
      have HOd : Hid (Own w wr.drew b m s (fun g => g = q ∨ g = q + 1)) := Lib.hid (Hg.out.own.later ((Below.refl _ _).drew))
      have HGd := Lib.hid (Hg.out.last)
      have HWd : Hid (∀ w13, Own w w13 b m (s.settle 1 (fun _ => true)) (fun g => g = q ∨ g = q + 1) → Left w (fun g => g = q ∨ g = q + 1) wr.drew w13 → Hid (Below w.heap.size w w13) ∧
          w13.cell? ⟨q + 1, 0, none⟩ = some (.string (str l0)) ∧ w13.cell? ⟨q + 1, 3, none⟩ = some (.string (str l3)) ∧
          Hid (Calls Try.prog 22 #[.pointer (some ⟨b, 0, none⟩), .int .i64 0] w13 fun e w' => e = .returned (.string (str l0)) ∧ w13 = w') ∧
          Hid (Calls Try.prog 22 #[.pointer (some ⟨b, 0, none⟩), .int .i64 3] w13 fun e w' => e = .returned (.string (str l3)) ∧ w13 = w')) := Lib.hid fun w13 h13 hl13 => by
        have hG : Four w13 (q + 1) [l0, l1, l2, l3] := by
          have h := HGd.out
          rw [HL.out] at h
          have h2 : Four wr.drew (q + 1) [l0, l1, l2, l3] := ⟨h.length, h.cell, h.free⟩
          exact h2.left hl13 (.inr rfl)
        have hlies : (s.settle 1 (fun _ => true)).lies = [l0, l1, l2, l3] := by rw [settle_all, HL.out]
        have p0 := Peek_own h13 ((0 : Nat) : Int)
        have p3 := Peek_own h13 ((3 : Nat) : Int)
        rw [lieI_nat (by rw [hlies]; simp)] at p0
        rw [lieI_nat (by rw [hlies]; simp)] at p3
        simp only [hlies] at p0 p3
        exact ⟨Lib.hid h13.below, hG.cell 0 (by omega), hG.cell 3 (by omega), Lib.hid p0, Lib.hid p3⟩
      have Hkey := Lib.hid Hg.out.key
      go_wp2
      go_region_with (first
        | (go_at_call 20; refine (Flush_own HOd.out (by decide) Hkey.out).mono ?_; rintro e w13 ⟨rfl, h13, hl13⟩; obtain ⟨HB13, ce0, ce3, HP0, HP3⟩ := HWd.out w13 h13 hl13; clear h13 hl13)
        | (go_at_call 22; first | ((with_reducible refine HP0.out.mono ?_); rintro e w14 ⟨rfl, rfl⟩) | ((with_reducible refine HP3.out.mono ?_); rintro e w14 ⟨rfl, rfl⟩)))
      all_goals
        go_wp2
        go_ret
        exact ⟨rfl, HB13.out⟩
theorem own : ownKnob Try.prog.godebug = none := by kernel_rfl
theorem laidOut : laidOutB Try.prog = true := by kernel_rfl
set_option maxRecDepth 100000 in
theorem lifted (os : Os) (started : os.Started) (H : Type) (enc : TypeId × Value → H) :
    ReturnsInHanded {} Try.checked os 8 .any (Rows.diskFlushesSpec.pre6 enc Try.prog Try.f8 Rows.diskFlushesRow.domain false) (Rows.diskFlushesSpec.post enc Try.prog Try.f8 false true false false) := by
  refine returnsInHanded_of_change (C := Try.checked) own started (by kernel_rfl) Try.func8
    (ChangeSpec.witness6 (enc := enc) (C := Try.checked) false ⟨#[], #[.slice none 0 0, .int .i64 0], []⟩ 8 (by kernel_rfl) (by kernel_rfl) (by kernel_rfl) (by kernel_rfl)) ?_
  intro W base args ds gs before hval0 hW hcnd _
  have hval : ∀ (j : Nat) t v, Try.f8.params[j]? = some t → args[j]? = some v → Value.okWide Try.prog W .any base t v := hval0
  have hW' := hW
  obtain ⟨p, q, hA0, hV, rfl, hfz, hnd⟩ := hW
  have hA : DataW.TrodAll enc Try.prog W 0 (fun _ => true) true Try.f8.params.toList args.toList ds p := hA0
  rw [Try.params8] at hA hval
  obtain ⟨v0, vs0, d0, ds0, p0, q0, hargs, rfl, rfl, h0, r0⟩ := trodAll_cons hA
  obtain ⟨v1, vs1, d1, ds1, p1, q1, rfl, rfl, rfl, h1, r1⟩ := trodAll_cons r0
  obtain ⟨rfl, rfl, rfl⟩ := trodAll_nil r1
  obtain rfl : args = #[v0, v1] := by cases args; simp_all
  obtain ⟨x0, len0, cap0, a0, rfl, w0, y0⟩ := opens_ops (hval 0 22 v0 rfl rfl) h0
  obtain ⟨a1, rfl, rfl, rfl, w1⟩ := open_int Try.underlying3 (hval 1 3 v1 rfl rfl) h1
  clear hA0 hval0
  refine (walk x0 len0 cap0 a0 a1 W w0 y0 w1).mono fun e W' ⟨he, bel⟩ => ?_
  subst he
  exact ⟨_, rfl, law_post laidOut (by rw [Try.params8]; decide +kernel) rfl Try.underlying4 rfl hW' (fun _ => rfl) bel⟩
theorem over : Rows.diskFlushesRow.holds Try.pinned (OpenSpec.ofChange Rows.diskFlushesSpec) :=
  OpenClaim.holds_of_wide 8 Try.f8 rfl rfl rfl rfl rfl rfl rfl ⟨rfl, rfl, rfl, rfl, rfl⟩ rfl rfl rfl rfl rfl (by kernel_rfl) Try.func8 (by kernel_rfl)
    (of_decide_eq_true (by kernel_rfl)) (by unfold Func.isWrapper; first | (rw [if_pos (by decide +kernel)]; kernel_rfl) | (rw [if_neg (by decide +kernel)]; exact ⟨rfl, rfl⟩))
    (fun os started H enc _ => lifted os started H enc)
theorem proved : Rows.DiskFlushesSaid := over
end Go.Proofs.Ytcahccjlompilaa.diskFlushes
