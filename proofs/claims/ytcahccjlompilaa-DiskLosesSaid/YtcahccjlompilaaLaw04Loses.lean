/- A loss of power leaves of a cache just what is picked, and forgets fences. -/
import Derived.Test.YtcahccjlompilaaRows
import Derived.Test.YtcahccjlompilaaLos04
import Derived.Deep.DeepCutAuto
namespace Go.Proofs.Ytcahccjlompilaa.diskLoses
open Go.RowKit Go.ChangeShapes Go.WideShapes Go.ChangeAt
open Go.ChangeMaps (open_string shut_string)

/-- What holds at each round's head. -/
structure Los (W w : World) (b q m : Nat) (zs : List Int) (s : DS) : Prop where
  own : Own W w b m s (fun g => g = q)
  four : s.lies.length = 4
  key : s.keys 1 = 1
  key2 : s.keys 2 = 1
  other : ∀ x, x ≠ 1 → s.caches x = []
  lies : Four w q (landed s.lies (s.caches 1) (decs zs) (s.caches 1).length)
/-- What holds behind the loss of power. -/
structure Lost (W w : World) (b q m : Nat) (s : DS) : Prop where
  own : Own W w b m s (fun g => g = q)
  four : s.lies.length = 4
  key : (s.keys 1 == 1) = true
  key2 : (s.keys 2 == 1) = true
  cache : s.caches 1 = []
  pend : s.pend = []
  lies : Four w q s.lies
theorem Lost.below {W w w' : World} {b q m : Nat} {s : DS} (h : Lost W w b q m s) (k : Below w.heap.size w w') : Lost W w' b q m s :=
  ⟨h.own.later k, h.four, h.key, h.key2, h.cache, h.pend, h.lies.below k⟩
theorem Lost.peek {W w : World} {b q m : Nat} {s : DS} (h : Lost W w b q m s) {i : Nat} (hi : i < 4) : lieI s (i : Int) = s.lies.getD i [] := by
  have hl : i < s.lies.length := by rw [h.four]; exact hi
  rw [lieI_nat hl, List.getD_eq_getElem?_getD, List.getElem?_eq_getElem hl]; rfl
def wroteS (s : DS) (j : Nat) (l : List UInt8) : DS := s.cacheTo 1 (s.caches 1 ++ [(j, l)])
theorem wrote_one (s : DS) (j : Nat) (l : List UInt8) : (wroteS s j l).caches 1 = s.caches 1 ++ [(j, l)] := by simp [wroteS, DS.cacheTo]
theorem wrote_other (s : DS) (j : Nat) (l : List UInt8) (h : ∀ x, x ≠ 1 → s.caches x = []) : ∀ x, x ≠ 1 → (wroteS s j l).caches x = [] := fun x hx => by
  have : (wroteS s j l).caches x = s.caches x := if_neg hx
  rw [this, h x hx]
theorem Los.yes {W w w1 : World} {b q m j : Nat} {zs : List Int} {s : DS} {l : List UInt8} (h : Los W w b q m zs s) (hW : W.heap.size ≤ q) (hO : Own W w1 b (m + 1) (wroteS s j l) (fun g => g = q)) (hF : Four w1 q (landed s.lies (s.caches 1) (decs zs) (s.caches 1).length)) (hd : decs zs (s.caches 1).length = true) :
    Los W (w1.setCell ⟨q, j, none⟩ (.string (str l))) b q (m + 1) zs (wroteS s j l) := by
  refine ⟨hO.set rfl hW _, h.four, h.key, h.key2, wrote_other s j l h.other, ?_⟩
  rw [wrote_one]
  show Four _ q (landed s.lies (s.caches 1 ++ [(j, l)]) (decs zs) (s.caches 1 ++ [(j, l)]).length)
  rw [landed_last, if_pos hd]
  exact hF.set j l
theorem Los.no {W w w1 : World} {b q m j : Nat} {zs : List Int} {s : DS} {l : List UInt8} (h : Los W w b q m zs s) (hO : Own W w1 b (m + 1) (wroteS s j l) (fun g => g = q)) (hF : Four w1 q (landed s.lies (s.caches 1) (decs zs) (s.caches 1).length)) (hd : decs zs (s.caches 1).length = false) :
    Los W w1 b q (m + 1) zs (wroteS s j l) := by
  refine ⟨hO, h.four, h.key, h.key2, wrote_other s j l h.other, ?_⟩
  rw [wrote_one]
  show Four _ q (landed s.lies (s.caches 1 ++ [(j, l)]) (decs zs) (s.caches 1 ++ [(j, l)]).length)
  rw [landed_last, if_neg (by rw [hd]; decide)]
  exact hF
set_option maxRecDepth 100000 in
set_option maxHeartbeats 2000000 in
theorem walk (x0 : Option Addr) (len0 cap0 : Nat) (a0 : Nat → OpV) (x1 : Option Addr) (len1 cap1 : Nat) (a1 : List Int) (w : World) (w0 : IsOps w x0 len0 a0) (_ : len0 ≤ cap0) (w1 : IsInts .i64 w x1 len1 a1) (y1 : len1 ≤ cap1) :
    Calls Try.prog 9 #[.slice x0 len0 cap0, .slice x1 len1 cap1] w fun e w' => e = .returned (.bool true) ∧ Below w.heap.size w w' := by
  have hm0 : len0 ≤ 9223372036854775807 := w0.max
  have hm1 : len1 ≤ 9223372036854775807 := w1.max
  have Hc0 := Lib.hid w0.cells
  obtain ⟨g, hP, hgw⟩ := picks_cut w1 y1
  obtain ⟨zs, Hzs⟩ : ∃ zs, a1.take 12 = zs := ⟨_, rfl⟩
  obtain ⟨L, hL⟩ : ∃ L, min len1 12 = L := ⟨_, rfl⟩
  rw [hL] at hP hgw
  rw [Hzs] at hP
  have hL1 : ¬ 12 < len1 → L = len1 := fun h => by omega
  have hL2 : 12 < len1 → L = 12 := fun h => by omega
  have hL12 : L ≤ 12 := by omega
  have HL1 := Lib.hid hL1
  have HL2 := Lib.hid hL2
  have HP := Lib.hid hP
  have Hgw := Lib.hid hgw
  have Hx1 : Hid (0 < len1 → ∃ xb off, x1 = some ⟨xb, off, none⟩) := Lib.hid fun h => by
    obtain ⟨xb, off, h1, _⟩ := w1.cells h
    exact ⟨xb, off, h1⟩
  clear w0 w1 hP hgw Hzs hL hL1 hL2
  have hmk := fun w => mkn w 512 (by omega) (by omega)
  have hcv : ∀ w : World, _ := fun w => cvn w 512
  rw [show List.replicate 512 (0 : UInt8) = zero512 from rfl] at hcv
  go_enter Try.func9, Try.ntmps9
  go_wp2_with fail
  refine (awake_any _).mono ?_
  rintro e w2 ⟨rfl, hb2⟩
  have Hb2 := Lib.hid hb2
  clear hb2
  go_wp2_with fail
  refine (New_own w 4 (by decide) Hb2.out).mono ?_
  rintro e w3 ⟨b, rfl, h3, _⟩
  have H3 := Lib.hid h3
  clear h3
  go_wp2_with fail
  refine (Register_own H3.out (by decide) (by omega)).mono ?_
  rw [show regE (DS.new (sectorsN 4)) 1 = 0 from rfl]
  rintro e w3' ⟨rfl, h3', _⟩
  have H3' := Lib.hid h3'
  clear h3'
  go_wp2_with fail
  refine (Register_own H3'.out (by decide) (by omega)).mono ?_
  rw [show regE (regS (DS.new (sectorsN 4)) 1) 2 = 0 from rfl]
  rintro e w4 ⟨rfl, h4, _⟩
  have H4 := Lib.hid h4
  clear h4
  go_upto_if 29 with fail
  go_cut [1] (fun v wx => v = .slice x1 L cap1 ∧ wx = w4)
  case first =>
    by_cases h : 12 < len1
    · obtain ⟨xb, off, rfl⟩ := Hx1.out (by omega)
      have hcp : 12 ≤ cap1 := by omega
      go_wp2_with fail
      go_meet
      case rel => exact ⟨by rw [HL2.out h], rfl⟩
    · go_wp2_with fail
      go_meet
      case rel => exact ⟨by rw [HL1.out h], rfl⟩
  case rest =>
  obtain ⟨rfl, hwx⟩ := hcut
  subst hwx
  go_upto_block 0 with (fail)
  obtain ⟨w5, Hw5⟩ : ∃ w5, Hid (wc.alloc (zeroObj 512) = w5) := ⟨_, Lib.hid rfl⟩
  have H5 : Hid (Own w w5 b 2 (regS (regS (DS.new (sectorsN 4)) 1) 2) (fun _ => False)) := Lib.hid (by rw [← Hw5.out]; exact H4.out.later ((Below.refl _ _).alloc (Nat.le_refl _) _))
  obtain ⟨q, Hq⟩ : ∃ q, Hid (wc.heap.size + 1 = q) := ⟨_, Lib.hid rfl⟩
  have hq5 : w5.heap.size = q := by rw [← Hw5.out, ← Hq.out]; simp
  rw [Hw5.out, Hq.out]
  obtain ⟨w6, Hw6⟩ : ∃ w6, Hid (w5.alloc (.cells #[.string (str zero512), .string (str zero512), .string (str zero512), .string (str zero512)] 58) = w6) := ⟨_, Lib.hid rfl⟩
  have hO6 : Own w w6 b 2 (regS (regS (DS.new (sectorsN 4)) 1) 2) (fun g => g = q) := by
    have h := (H5.out.alloc (.cells #[.string (str zero512), .string (str zero512), .string (str zero512), .string (str zero512)] 58))
    rw [Hw6.out, hq5] at h
    exact h.weak (fun g hg => .inr hg)
  have hF6 : Four w6 q [zero512, zero512, zero512, zero512] := by
    have h := Four.made w5 zero512 zero512 zero512 zero512 58
    rwa [hq5, Hw6.out] at h
  have HI : Hid (Los w w6 b q 2 zs (regS (regS (DS.new (sectorsN 4)) 1) 2)) := Lib.hid ⟨hO6, rfl, rfl, rfl, fun _ _ => rfl, hF6⟩
  have HqW : Hid (w.heap.size ≤ q) := Lib.hid (by rw [← hq5]; exact H5.out.below.size)
  clear hO6 hF6 hq5
  rw [Hw6.out]
  go_cut [9] (fun _ wx => ∃ (m : Nat) (s : DS), m ≤ 20 ∧ Hid (Los w wx b q m zs s))
  case first =>
    go_wp2
    go_loopw [9] (fun v wr => ∃ (k m : Nat) (s : DS), v = .int .i64 (k : Int) ∧ k ≤ len0 ∧ k ≤ 12 ∧ m ≤ k + 2 ∧ Hid ((s.caches 1).length = k) ∧ Hid (Los w wr b q m zs s)) (fun v _ => len0 - (intOf v).toNat)
    case atStart => exact ⟨0, 2, _, rfl, Nat.zero_le _, by omega, by omega, Lib.hid rfl, HI⟩
    case round =>
      obtain ⟨k, m, s, rfl, hk, hk12, hmk, Hlen, Hf⟩ := hrel
      by_cases hlt : k < len0 ∧ k < 12
      · obtain ⟨hlt, h12⟩ := hlt
        obtain ⟨xb, off, rfl, hop⟩ := Hc0.out (by omega)
        have hopk := (hop k hlt).below Hf.out.own.below
        have xs := hopk.sector
        have xb' := hopk.byte
        obtain ⟨j, Hj, hj4⟩ := and3 (a0 k).sector hopk.wsector
        obtain ⟨x, Hx⟩ : ∃ x, Hid ((a0 k).byte = x) := ⟨_, Lib.hid rfl⟩
        rw [Hx.out] at xb'
        have Hxb := Lib.hid xb'
        have hop8 := Lib.hid (hop k hlt)
        clear hop hopk
        go_wp2_with fail
        rw [Hj.out]
        refine (sector_any x _).mono ?_
        rintro e w8 ⟨rfl, hb8⟩
        have HF8 := Lib.hid (Hf.out.lies.below hb8)
        have HO8 := Lib.hid (Hf.out.own.later hb8)
        clear hb8
        go_wp2_with fail
        have hb9 := HO8.out.fine.small
        refine (Write_own (i := j) HO8.out (by decide) (by rw [Hf.out.four]; exact hj4) (sec_length _) Hf.out.key (by omega)).mono ?_
        rintro e w10 ⟨rfl, h10, hl10⟩
        have H10 : Hid (Own w w10 b (m + 1) (wroteS s j (sec x)) (fun g => g = q)) := Lib.hid h10
        have HF10 := Lib.hid (HF8.out.left hl10 rfl)
        have HL' : Hid (((wroteS s j (sec x)).caches 1).length = k + 1) := Lib.hid (by rw [wrote_one, List.length_append, Hlen.out]; rfl)
        clear h10 hl10
        by_cases hkL : k < L
        · obtain ⟨xp, offp, rfl⟩ : ∃ xp offp, x1 = some ⟨xp, offp, none⟩ := by
            obtain ⟨offp, h1, _⟩ := HP.out.cells (by omega)
            exact ⟨_, _, h1⟩
          have xk : w10.cell? ⟨xp, offp + k, none⟩ = some (.int .i64 (zs.getD k 0)) := by
            obtain ⟨offp', h1, h2⟩ := HP.out.cells (by omega)
            injection h1 with h1
            injection h1 with h3 h4 _
            subst h3 h4
            exact (H10.out.below.cell (p := ⟨xp, offp + k, none⟩) (lt_of_cell (h2 k hkL))).trans (h2 k hkL)
          have hzw : (Lit.int .i64 (zs.getD k 0)).wf = true := HP.out.wf _ (by
            have : k < zs.length := by rw [HP.out.length]; exact hkL
            rw [List.getD_eq_getElem?_getD, List.getElem?_eq_getElem this]; exact List.getElem_mem this)
          have hod := odd_val (zs.getD k 0)
          obtain ⟨z, Hz⟩ : ∃ z, Hid (zs.getD k 0 = z) := ⟨_, Lib.hid rfl⟩
          have Hdec : Hid (decs zs (s.caches 1).length = oddB z) := Lib.hid (by rw [Hlen.out, decs, Hz.out])
          rw [Hz.out] at xk hzw hod
          have hzb := bounds_i64 hzw
          have f0 := HF10.out.free j hj4
          have cj := HF10.out.cell j hj4
          have hj4' : (j : Int) < 4 := by omega
          clear hzw
          cases ho : oddB z with
          | true =>
            rw [ho] at hod Hdec
            have HN := Lib.hid (Los.yes Hf.out HqW.out H10.out HF10.out Hdec.out)
            clear ho
            go_wp2
            go_roundw
            case rel => exact ⟨k + 1, m + 1, _, by go_num, by omega, by omega, by omega, HL', HN⟩
            case measure => simp [intOf]; omega
          | false =>
            rw [ho] at hod Hdec
            have HN := Lib.hid (Los.no Hf.out H10.out HF10.out Hdec.out)
            clear ho f0 cj
            go_wp2
            go_roundw
            case rel => exact ⟨k + 1, m + 1, _, by go_num, by omega, by omega, by omega, HL', HN⟩
            case measure => simp [intOf]; omega
        · have Hdec : Hid (decs zs (s.caches 1).length = false) := Lib.hid (by
            rw [Hlen.out, decs, List.getD_eq_getElem?_getD, List.getElem?_eq_none (by rw [HP.out.length]; omega)]; rfl)
          have HN := Lib.hid (Los.no Hf.out H10.out HF10.out Hdec.out)
          go_wp2
          go_roundw
          case rel => exact ⟨k + 1, m + 1, _, by go_num, by omega, by omega, by omega, HL', HN⟩
          case measure => simp [intOf]; omega
      · have hd : len0 ≤ k ∨ (k < len0 ∧ 12 ≤ k) := by omega
        clear hlt
        rcases hd with hd | ⟨hd, hd12⟩
        all_goals
          go_wp2
          go_meet
          case rel => exact ⟨m, s, by omega, Hf⟩
  case rest =>
  obtain ⟨m, s, hm20, Hf⟩ := hcut
  go_wp2_with fail
  refine (Fence_own (k := 2) (t := 1) Hf.out.own (by decide) (by decide) (by decide) Hf.out.key2 (by omega)).mono ?_
  rintro e w12 ⟨rfl, h12, hl12⟩
  have H12 := Lib.hid h12
  have HF12 := Lib.hid (Hf.out.lies.left hl12 rfl)
  have HP12 := Lib.hid (HP.out.later (Mod.of_below (S := fun _ => False) H12.out.below) (fun _ => id))
  obtain ⟨ks, hks, hkm, e1, e2, e3, e4⟩ := pow_one (s.fence 1) zs (fun x hx => by rw [fence_caches]; exact Hf.out.other x hx)
  have Hks := Lib.hid hks
  have Hkm := Lib.hid hkm
  have He := Lib.hid (And.intro e1 (And.intro e2 (And.intro e3 e4)))
  clear h12 hl12 hks hkm e1 e2 e3 e4
  go_wp2_with fail
  refine (Power_own H12.out (by omega) HP12.out (fun h => .inl (Hgw.out h)) Hks.out Hkm.out).mono ?_
  rintro e w13 ⟨rfl, h13, hl13⟩
  obtain ⟨s3, Hs3⟩ : ∃ s3, Hid ((s.fence 1).power zs ks = s3) := ⟨_, Lib.hid rfl⟩
  rw [Hs3.out] at h13 He
  have HZ : Hid (Lost w w13 b q (m + 1 + 1) s3) := Lib.hid (by
    obtain ⟨e1, e2, e3, e4⟩ := He.out
    rw [fence_lies, fence_caches] at e1
    rw [fence_keys] at e2
    refine ⟨h13, ?_, by rw [e2, Hf.out.key]; rfl, by rw [e2, Hf.out.key2]; rfl, e4, e3, ?_⟩
    · rw [e1, landed_length]; exact Hf.out.four
    · rw [e1]; exact HF12.out.left hl13 rfl)
  clear h13 hl13
  go_wp2_with fail
  go_loopw [12] (fun v wr2 => ∃ i : Nat, v = .int .i64 (i : Int) ∧ i ≤ 4 ∧ Hid (Lost w wr2 b q (m + 1 + 1) s3)) (fun v _ => 4 - (intOf v).toNat)
  case atStart => exact ⟨0, rfl, by omega, HZ⟩
  case round =>
    obtain ⟨i, rfl, hi4, Hg⟩ := hrel
    by_cases hilt : i < 4
    · have hpk := Hg.out.peek hilt
      have ci := Hg.out.lies.cell i hilt
      obtain ⟨y, Hy⟩ : ∃ y, Hid (s3.lies.getD i [] = y) := ⟨_, Lib.hid rfl⟩
      rw [Hy.out] at hpk ci
      have Hpk := Lib.hid hpk
      have i4' : (i : Int) < 4 := by omega
      have i0' : 0 ≤ (i : Int) := by omega
      have HPq : Hid (∀ n, Calls Try.prog 22 #[.pointer (some ⟨b, 0, none⟩), .int .i64 (i : Int)] (wr.drewN n) fun e w' => e = .returned (.string (str y)) ∧ w' = wr.drewN n) := Lib.hid fun n => by
        have := Peek_own (Hg.out.own.later (below_drewN wr n)) (i : Int)
        rw [Hpk.out] at this
        exact this.mono fun e w' ⟨he, hw⟩ => ⟨he, hw.symm⟩
      clear hpk
      go_wp2
      go_quiet ((go_at_call 22; exact Calls.quiet_of_same (HPq.out _)))
      go_wp2
      go_roundw
      case rel => exact ⟨i + 1, by go_num, by omega, Lib.hid (Hg.out.below (below_drewN _ _))⟩
      case measure => simp [intOf]; omega
    · obtain rfl : i = 4 := by omega
      go_wp2_with fail
      refine (Pending_own Hg.out.own Hg.out.pend).mono ?_
      rintro e w14 ⟨pa, pc, rfl, hb14⟩
      have HO14 := Lib.hid (Hg.out.own.later hb14)
      clear hb14
      go_wp2_with fail
      refine (Registered_own HO14.out (by decide)).mono ?_
      rw [Hg.out.key]
      rintro e w15 ⟨rfl, rfl⟩
      go_wp2_with fail
      refine (Registered_own HO14.out (by decide)).mono ?_
      rw [Hg.out.key2]
      rintro e w15 ⟨rfl, rfl⟩
      go_wp2_with fail
      refine (Cached_own HO14.out (by decide)).mono ?_
      rw [Hg.out.cache]
      rintro e w15 ⟨rfl, rfl⟩
      go_wp2
      go_ret
      exact ⟨rfl, HO14.out.below⟩
theorem own : ownKnob Try.prog.godebug = none := by kernel_rfl
theorem laidOut : laidOutB Try.prog = true := by kernel_rfl
set_option maxRecDepth 100000 in
theorem lifted (os : Os) (started : os.Started) (H : Type) (enc : TypeId × Value → H) :
    ReturnsInHanded {} Try.checked os 9 .any (Rows.diskLosesSpec.pre6 enc Try.prog Try.f9 Rows.diskLosesRow.domain false) (Rows.diskLosesSpec.post enc Try.prog Try.f9 false true false false) := by
  refine returnsInHanded_of_change (C := Try.checked) own started (by kernel_rfl) Try.func9
    (ChangeSpec.witness6 (enc := enc) (C := Try.checked) false ⟨#[], #[.slice none 0 0, .slice none 0 0], []⟩ 8 (by kernel_rfl) (by kernel_rfl) (by kernel_rfl) (by kernel_rfl)) ?_
  intro W base args ds gs before hval0 hW hcnd _
  have hval : ∀ (j : Nat) t v, Try.f9.params[j]? = some t → args[j]? = some v → Value.okWide Try.prog W .any base t v := hval0
  have hW' := hW
  obtain ⟨p, q, hA0, hV, rfl, hfz, hnd⟩ := hW
  have hA : DataW.TrodAll enc Try.prog W 0 (fun _ => true) true Try.f9.params.toList args.toList ds p := hA0
  rw [Try.params9] at hA hval
  obtain ⟨v0, vs0, d0, ds0, p0, q0, hargs, rfl, rfl, h0, r0⟩ := trodAll_cons hA
  obtain ⟨v1, vs1, d1, ds1, p1, q1, rfl, rfl, rfl, h1, r1⟩ := trodAll_cons r0
  obtain ⟨rfl, rfl, rfl⟩ := trodAll_nil r1
  obtain rfl : args = #[v0, v1] := by cases args; simp_all
  obtain ⟨x0, len0, cap0, a0, rfl, w0, y0⟩ := opens_ops (hval 0 22 v0 rfl rfl) h0
  obtain ⟨x1, len1, cap1, a1, rfl, w1, y1⟩ := opens_intsc Try.underlying29 Try.underlying3 (by kernel_rfl) (hval 1 29 v1 rfl rfl) h1
  clear hA0 hval0
  refine (walk x0 len0 cap0 a0 x1 len1 cap1 a1 W w0 y0 w1 y1).mono fun e W' ⟨he, bel⟩ => ?_
  subst he
  exact ⟨_, rfl, law_post laidOut (by rw [Try.params9]; decide +kernel) rfl Try.underlying4 rfl hW' (fun _ => rfl) bel⟩
theorem over : Rows.diskLosesRow.holds Try.pinned (OpenSpec.ofChange Rows.diskLosesSpec) :=
  OpenClaim.holds_of_wide 9 Try.f9 rfl rfl rfl rfl rfl rfl rfl ⟨rfl, rfl, rfl, rfl, rfl⟩ rfl rfl rfl rfl rfl (by kernel_rfl) Try.func9 (by kernel_rfl)
    (of_decide_eq_true (by kernel_rfl)) (by unfold Func.isWrapper; first | (rw [if_pos (by decide +kernel)]; kernel_rfl) | (rw [if_neg (by decide +kernel)]; exact ⟨rfl, rfl⟩))
    (fun os started H enc _ => lifted os started H enc)
theorem proved : Rows.DiskLosesSaid := over
end Go.Proofs.Ytcahccjlompilaa.diskLoses
