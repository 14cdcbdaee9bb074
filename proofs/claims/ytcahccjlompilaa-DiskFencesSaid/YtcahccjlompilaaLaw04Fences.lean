/- A key that is fenced does nothing more; what it had cached lands as picked. -/
import Derived.Test.YtcahccjlompilaaRows
import Derived.Test.YtcahccjlompilaaLos04
import Derived.Deep.DeepCutAuto
namespace Go.Proofs.Ytcahccjlompilaa.diskFences
open Go.RowKit Go.ChangeShapes Go.WideShapes Go.ChangeAt
open Go.ChangeMaps (open_string shut_string)

/-- What holds at each round's head while key 1 may write. -/
structure Los (W w : World) (b q m : Nat) (zs : List Int) (s : DS) : Prop where
  own : Own W w b m s (fun g => g = q)
  four : s.lies.length = 4
  key : s.keys 1 = 1
  key2 : s.keys 2 = 1
  pend : s.pend = []
  other : ∀ x, x ≠ 1 → s.caches x = []
  lies : Four w q (landed s.lies (s.caches 1) (decs zs) (s.caches 1).length)
/-- What holds once key 1 is out. -/
structure Fen (W w : World) (b q m : Nat) (s : DS) : Prop where
  own : Own W w b m s (fun g => g = q)
  four : s.lies.length = 4
  key : s.keys 1 = 2
  key2 : (s.keys 2 == 1) = true
  cache : ∀ x, s.caches x = []
  lies : Four w q s.lies
theorem Fen.no1 {W w : World} {b q m : Nat} {s : DS} (h : Fen W w b q m s) : s.keys 1 ≠ 1 := by rw [h.key]; decide
theorem Fen.below {W w w' : World} {b q m : Nat} {s : DS} (h : Fen W w b q m s) (k : Below w.heap.size w w') : Fen W w' b q m s :=
  ⟨h.own.later k, h.four, h.key, h.key2, h.cache, h.lies.below k⟩
theorem Fen.peek {W w : World} {b q m : Nat} {s : DS} (h : Fen W w b q m s) {i : Nat} (hi : i < 4) : lieI s (i : Int) = s.lies.getD i [] := by
  have hl : i < s.lies.length := by rw [h.four]; exact hi
  rw [lieI_nat hl, List.getD_eq_getElem?_getD, List.getElem?_eq_getElem hl]; rfl
theorem Fen.whole {W w : World} {b q m : Nat} {s : DS} (h : Fen W w b q m s) {i : Nat} (hi : i < 4) : (s.lies.getD i []).length = 512 := by
  have hl : i < s.lies.length := by rw [h.four]; exact hi
  rw [List.getD_eq_getElem?_getD, List.getElem?_eq_getElem hl]
  exact h.own.fine.whole _ (List.getElem_mem hl)
theorem three_picks (w : World) : PickArg (w.alloc (.cells #[.int .i64 1, .int .i64 1, .int .i64 1] 3)) (some ⟨w.heap.size, 0, none⟩) 3 3 w.heap.size [1, 1, 1] := by
  refine ⟨rfl, Nat.le_refl _, fun z hz => ?_, fun _ => ⟨0, rfl, fun i hi => ?_⟩⟩
  · simp at hz; subst hz; decide
  · match i, hi with
    | 0, _ => simp [go_sem]
    | 1, _ => simp [go_sem]
    | 2, _ => simp [go_sem]
/-- What a loss leaves where nothing is cached. -/
theorem Fen.dropped {W w w1 : World} {b q m : Nat} {s : DS} {T : Nat → Prop} {dec : Nat → Bool} (h : Fen W w b q m s) (hO : Own W w1 b m (s.settle 1 dec) T) (hT : T q) (hF : Four w1 q s.lies) : Fen W w1 b q m (s.settle 1 dec) := by
  have e : (s.settle 1 dec).lies = s.lies := by
    show landed s.lies (s.caches 1) dec (s.caches 1).length = s.lies
    rw [h.cache 1]; rfl
  refine ⟨hO.weak (fun g hg => by subst hg; exact hT), by rw [e]; exact h.four, h.key, h.key2, fun x => ?_, by rw [e]; exact hF⟩
  by_cases hx : x = 1
  · exact if_pos hx
  · have : (s.settle 1 dec).caches x = s.caches x := if_neg hx
    rw [this, h.cache x]
theorem zero_four {l : List (List UInt8)} (h : l.length = 4) (hz : ∀ j, j < 4 → l.getD j [] = zero512) : l = [zero512, zero512, zero512, zero512] := by
  obtain ⟨a, b, c, d, rfl⟩ : ∃ a b c d, l = [a, b, c, d] := by
    match l, h with
    | [a, b, c, d], _ => exact ⟨a, b, c, d, rfl⟩
  rw [show a = zero512 from hz 0 (by omega), show b = zero512 from hz 1 (by omega), show c = zero512 from hz 2 (by omega), show d = zero512 from hz 3 (by omega)]
def wroteS (s : DS) (j : Nat) (l : List UInt8) : DS := s.cacheTo 1 (s.caches 1 ++ [(j, l)])
theorem wrote_one (s : DS) (j : Nat) (l : List UInt8) : (wroteS s j l).caches 1 = s.caches 1 ++ [(j, l)] := by simp [wroteS, DS.cacheTo]
theorem wrote_other (s : DS) (j : Nat) (l : List UInt8) (h : ∀ x, x ≠ 1 → s.caches x = []) : ∀ x, x ≠ 1 → (wroteS s j l).caches x = [] := fun x hx => by
  have : (wroteS s j l).caches x = s.caches x := if_neg hx
  rw [this, h x hx]
theorem Los.yes {W w w1 : World} {b q m j : Nat} {zs : List Int} {s : DS} {l : List UInt8} (h : Los W w b q m zs s) (hW : W.heap.size ≤ q) (hO : Own W w1 b (m + 1) (wroteS s j l) (fun g => g = q)) (hF : Four w1 q (landed s.lies (s.caches 1) (decs zs) (s.caches 1).length)) (hd : decs zs (s.caches 1).length = true) :
    Los W (w1.setCell ⟨q, j, none⟩ (.string (str l))) b q (m + 1) zs (wroteS s j l) := by
  refine ⟨hO.set rfl hW _, h.four, h.key, h.key2, h.pend, wrote_other s j l h.other, ?_⟩
  rw [wrote_one]
  show Four _ q (landed s.lies (s.caches 1 ++ [(j, l)]) (decs zs) (s.caches 1 ++ [(j, l)]).length)
  rw [landed_last, if_pos hd]
  exact hF.set j l
theorem Los.no {W w w1 : World} {b q m j : Nat} {zs : List Int} {s : DS} {l : List UInt8} (h : Los W w b q m zs s) (hO : Own W w1 b (m + 1) (wroteS s j l) (fun g => g = q)) (hF : Four w1 q (landed s.lies (s.caches 1) (decs zs) (s.caches 1).length)) (hd : decs zs (s.caches 1).length = false) :
    Los W w1 b q (m + 1) zs (wroteS s j l) := by
  refine ⟨hO, h.four, h.key, h.key2, h.pend, wrote_other s j l h.other, ?_⟩
  rw [wrote_one]
  show Four _ q (landed s.lies (s.caches 1 ++ [(j, l)]) (decs zs) (s.caches 1 ++ [(j, l)]).length)
  rw [landed_last, if_neg (by rw [hd]; decide)]
  exact hF
theorem new_peek {i : Nat} (hi : i < 4) : lieI (regS (regS (DS.new (sectorsN 4)) 1) 2) (i : Int) = zero512 := by
  rw [lieI_nat (show i < (regS (regS (DS.new (sectorsN 4)) 1) 2).lies.length from hi)]
  exact List.getElem_replicate (a := zero512) (n := 4) hi
theorem getD_set {l : List (List UInt8)} {i : Nat} (h : l.length = 4) (hi : i < 4) (hz : ∀ j, j < i → l.getD j [] = zero512) : ∀ j, j < i + 1 → (l.set i zero512).getD j [] = zero512 := fun j hj => by
  by_cases e : i = j
  · subst e
    simp [List.getD, show i < l.length by omega]
  · have := hz j (by omega)
    simpa [List.getD, e] using this
set_option maxRecDepth 100000 in
set_option maxHeartbeats 4000000 in
theorem walk (x0 : Option Addr) (len0 cap0 : Nat) (a0 : Nat → OpV) (x1 : Option Addr) (len1 cap1 : Nat) (a1 : List Int) (x2 : Option Addr) (len2 cap2 : Nat) (a2 : Nat → OpV) (w : World) (w0 : IsOps w x0 len0 a0) (_ : len0 ≤ cap0) (w1 : IsInts .i64 w x1 len1 a1) (y1 : len1 ≤ cap1) (w2 : IsOps w x2 len2 a2) (_ : len2 ≤ cap2) :
    Calls Try.prog 4 #[.slice x0 len0 cap0, .slice x1 len1 cap1, .slice x2 len2 cap2] w fun e w' => e = .returned (.bool true) ∧ Below w.heap.size w w' := by
  have hm2 : len2 ≤ 9223372036854775807 := w2.max
  have Hc2 := Lib.hid w2.cells
  have hm0 : len0 ≤ 9223372036854775807 := w0.max
  have hm1 : len1 ≤ 9223372036854775807 := w1.max
  have Hc0 := Lib.hid w0.cells
  obtain ⟨g, hP, hgw⟩ := picks_cut w1 y1
  obtain ⟨zs, Hzs⟩ : ∃ zs, a1.take 12 = zs := ⟨_, rfl⟩
  obtain ⟨L, hL⟩ : ∃ L, min len1 12 = L := ⟨_, rfl⟩
  rw [hL] at hP hgw
  rw [Hzs] at hP
  have hL1 : ¬ 12 < len1 → L = len1 := fun h => by omega
  have hL2 : 12 < len1 → L = 12 := fun h => by omega
  have hL12 : L ≤ 12 := by omega
  have HL1 := Lib.hid hL1
  have HL2 := Lib.hid hL2
  have HP := Lib.hid hP
  have Hgw := Lib.hid hgw
  have Hx1 : Hid (0 < len1 → ∃ xb off, x1 = some ⟨xb, off, none⟩) := Lib.hid fun h => by
    obtain ⟨xb, off, h1, _⟩ := w1.cells h
    exact ⟨xb, off, h1⟩
  clear w0 w1 w2 hP hgw Hzs hL hL1 hL2
  go_enter Try.func4, Try.ntmps4
  go_wp2_with fail
  refine (awake_any _).mono ?_
  rintro e w2' ⟨rfl, hb2⟩
  have Hb2 := Lib.hid hb2
  clear hb2
  go_wp2_with fail
  refine (New_own w 4 (by decide) Hb2.out).mono ?_
  rintro e w3 ⟨b, rfl, h3, _⟩
  have H3 := Lib.hid h3
  clear h3
  go_wp2_with fail
  refine (Register_own H3.out (by decide) (by omega)).mono ?_
  rw [show regE (DS.new (sectorsN 4)) 1 = 0 from rfl]
  rintro e w3' ⟨rfl, h3', _⟩
  have H3' := Lib.hid h3'
  clear h3'
  go_wp2_with fail
  refine (Register_own H3'.out (by decide) (by omega)).mono ?_
  rw [show regE (regS (DS.new (sectorsN 4)) 1) 2 = 0 from rfl]
  rintro e w4 ⟨rfl, h4, _⟩
  have H4 := Lib.hid h4
  clear h4
  go_upto_if 41 with fail
  go_cut [1] (fun v wx => v = .slice x1 L cap1 ∧ wx = w4)
  case first =>
    by_cases h : 12 < len1
    · obtain ⟨xb, off, rfl⟩ := Hx1.out (by omega)
      have hcp : 12 ≤ cap1 := by omega
      go_wp2_with fail
      go_meet
      case rel => exact ⟨by rw [HL2.out h], rfl⟩
    · go_wp2_with fail
      go_meet
      case rel => exact ⟨by rw [HL1.out h], rfl⟩
  case rest =>
  obtain ⟨rfl, hwx⟩ := hcut
  subst hwx
  go_upto_block 0 with (fail)
  obtain ⟨q, Hq⟩ : ∃ q, Hid (wc.heap.size = q) := ⟨_, Lib.hid rfl⟩
  obtain ⟨w6, Hw6⟩ : ∃ w6, Hid (wc.alloc (.cells #[.string ⟨#[]⟩, .string ⟨#[]⟩, .string ⟨#[]⟩, .string ⟨#[]⟩] 58) = w6) := ⟨_, Lib.hid rfl⟩
  have HO6 : Hid (Own w w6 b 2 (regS (regS (DS.new (sectorsN 4)) 1) 2) (fun g => g = q)) := Lib.hid (by
    have h := (H4.out.alloc (.cells #[.string ⟨#[]⟩, .string ⟨#[]⟩, .string ⟨#[]⟩, .string ⟨#[]⟩] 58))
    rw [Hw6.out, Hq.out] at h
    exact h.weak (fun g hg => .inr hg))
  have HF6 : Hid (Four w6 q [[], [], [], []]) := Lib.hid (by
    have h := Four.made wc [] [] [] [] 58
    rw [show str [] = ⟨#[]⟩ from rfl] at h
    rwa [Hq.out, Hw6.out] at h)
  have HqW : Hid (w.heap.size ≤ q) := Lib.hid (by rw [← Hq.out]; exact H4.out.below.size)
  rw [Hw6.out, Hq.out]
  go_cut [10] (fun _ wx => Hid (Los w wx b q 2 zs (regS (regS (DS.new (sectorsN 4)) 1) 2)))
  case first =>
    go_wp2
    go_loopw [10] (fun v wr => ∃ (i : Nat) (l : List (List UInt8)), v = .int .i64 (i : Int) ∧ i ≤ 4 ∧ Hid (Own w wr b 2 (regS (regS (DS.new (sectorsN 4)) 1) 2) (fun g => g = q)) ∧ Hid (Four wr q l) ∧ Hid (∀ j, j < i → l.getD j [] = zero512)) (fun v _ => 4 - (intOf v).toNat)
    case atStart => exact ⟨0, _, rfl, by omega, HO6, HF6, Lib.hid (fun j hj => absurd hj (by omega))⟩
    case round =>
      obtain ⟨i, l, rfl, hi4, HO, HF, HZ⟩ := hrel
      by_cases hilt : i < 4
      · have ci := HF.out.cell i hilt
        have fi := HF.out.free i hilt
        have i4' : (i : Int) < 4 := by omega
        go_wp2_with fail
        refine (Peek_own HO.out (i : Int)).mono ?_
        rw [new_peek hilt]
        rintro e w7 ⟨rfl, rfl⟩
        have HO2 := Lib.hid (HO.out.set (q := q) (o := i) rfl HqW.out (.string (str zero512)))
        have HF2 := Lib.hid (HF.out.set i zero512)
        have HZ2 := Lib.hid (getD_set HF.out.length hilt HZ.out)
        go_wp2
        go_roundw
        case rel => exact ⟨i + 1, _, by go_num, by omega, HO2, HF2, HZ2⟩
        case measure => simp [intOf]; omega
      · obtain rfl : i = 4 := by omega
        have el := zero_four HF.out.length HZ.out
        have HF3 : Hid (Four wr q [zero512, zero512, zero512, zero512]) := Lib.hid (by rw [← el]; exact HF.out)
        clear el
        go_wp2
        go_meet
        case rel => exact Lib.hid ⟨HO.out, rfl, rfl, rfl, rfl, fun _ _ => rfl, HF3.out⟩
  case rest =>
  have HI := hcut
  clear hcut
  go_upto_block 2 with (fail)
  go_cut [12] (fun _ wx => ∃ (m : Nat) (s : DS), m ≤ 20 ∧ Hid (Los w wx b q m zs s))
  case first =>
    go_wp2
    go_loopw [11, 12] (fun nv v wr => ∃ (k m : Nat) (s : DS), nv = .int .i64 (k : Int) ∧ v = .int .i64 (k : Int) ∧ k ≤ len0 ∧ k ≤ 12 ∧ m ≤ k + 2 ∧ Hid ((s.caches 1).length = k) ∧ Hid (Los w wr b q m zs s)) (fun _ v _ => len0 - (intOf v).toNat)
    case atStart => exact ⟨0, 2, _, rfl, rfl, Nat.zero_le _, by omega, by omega, Lib.hid rfl, HI⟩
    case round =>
      obtain ⟨k, m, s, rfl, rfl, hk, hk12, hmk, Hlen, Hf⟩ := hrel
      by_cases hlt : k < len0 ∧ k < 12
      · obtain ⟨hlt, h12⟩ := hlt
        obtain ⟨xb, off, rfl, hop⟩ := Hc0.out (by omega)
        have hopk := (hop k hlt).below Hf.out.own.below
        have xs := hopk.sector
        have xb' := hopk.byte
        obtain ⟨j, Hj, hj4⟩ := and3 (a0 k).sector hopk.wsector
        obtain ⟨x, Hx⟩ : ∃ x, Hid ((a0 k).byte = x) := ⟨_, Lib.hid rfl⟩
        rw [Hx.out] at xb'
        have Hxb := Lib.hid xb'
        have hop8 := Lib.hid (hop k hlt)
        clear hop hopk
        go_wp2_with fail
        rw [Hj.out]
        refine (sector_any x _).mono ?_
        rintro e w8 ⟨rfl, hb8⟩
        have HF8 := Lib.hid (Hf.out.lies.below hb8)
        have HO8 := Lib.hid (Hf.out.own.later hb8)
        clear hb8
        go_wp2_with fail
        have hb9 := HO8.out.fine.small
        refine (Write_own (i := j) HO8.out (by decide) (by rw [Hf.out.four]; exact hj4) (sec_length _) Hf.out.key (by omega)).mono ?_
        rintro e w10 ⟨rfl, h10, hl10⟩
        have H10 : Hid (Own w w10 b (m + 1) (wroteS s j (sec x)) (fun g => g = q)) := Lib.hid h10
        have HF10 := Lib.hid (HF8.out.left hl10 rfl)
        have HL' : Hid (((wroteS s j (sec x)).caches 1).length = k + 1) := Lib.hid (by rw [wrote_one, List.length_append, Hlen.out]; rfl)
        clear h10 hl10
        by_cases hkL : k < L
        · obtain ⟨xp, offp, rfl⟩ : ∃ xp offp, x1 = some ⟨xp, offp, none⟩ := by
            obtain ⟨offp, h1, _⟩ := HP.out.cells (by omega)
            exact ⟨_, _, h1⟩
          have xk : w10.cell? ⟨xp, offp + k, none⟩ = some (.int .i64 (zs.getD k 0)) := by
            obtain ⟨offp', h1, h2⟩ := HP.out.cells (by omega)
            injection h1 with h1
            injection h1 with h3 h4 _
            subst h3 h4
            exact (H10.out.below.cell (p := ⟨xp, offp + k, none⟩) (lt_of_cell (h2 k hkL))).trans (h2 k hkL)
          have hzw : (Lit.int .i64 (zs.getD k 0)).wf = true := HP.out.wf _ (by
            have : k < zs.length := by rw [HP.out.length]; exact hkL
            rw [List.getD_eq_getElem?_getD, List.getElem?_eq_getElem this]; exact List.getElem_mem this)
          have hod := odd_val (zs.getD k 0)
          obtain ⟨z, Hz⟩ : ∃ z, Hid (zs.getD k 0 = z) := ⟨_, Lib.hid rfl⟩
          have Hdec : Hid (decs zs (s.caches 1).length = oddB z) := Lib.hid (by rw [Hlen.out, decs, Hz.out])
          rw [Hz.out] at xk hzw hod
          have hzb := bounds_i64 hzw
          have f0 := HF10.out.free j hj4
          have cj := HF10.out.cell j hj4
          have hj4' : (j : Int) < 4 := by omega
          clear hzw
          cases ho : oddB z with
          | true =>
            rw [ho] at hod Hdec
            have HN := Lib.hid (Los.yes Hf.out HqW.out H10.out HF10.out Hdec.out)
            clear ho
            go_wp2
            go_roundw
            case rel => exact ⟨k + 1, m + 1, _, by go_num, by go_num, by omega, by omega, by omega, HL', HN⟩
            case measure => simp [intOf]; omega
          | false =>
            rw [ho] at hod Hdec
            have HN := Lib.hid (Los.no Hf.out H10.out HF10.out Hdec.out)
            clear ho f0 cj
            go_wp2
            go_roundw
            case rel => exact ⟨k + 1, m + 1, _, by go_num, by go_num, by omega, by omega, by omega, HL', HN⟩
            case measure => simp [intOf]; omega
        · have Hdec : Hid (decs zs (s.caches 1).length = false) := Lib.hid (by
            rw [Hlen.out, decs, List.getD_eq_getElem?_getD, List.getElem?_eq_none (by rw [HP.out.length]; omega)]; rfl)
          have HN := Lib.hid (Los.no Hf.out H10.out HF10.out Hdec.out)
          go_wp2
          go_roundw
          case rel => exact ⟨k + 1, m + 1, _, by go_num, by go_num, by omega, by omega, by omega, HL', HN⟩
          case measure => simp [intOf]; omega
      · have hd : len0 ≤ k ∨ (k < len0 ∧ 12 ≤ k) := by omega
        clear hlt
        rcases hd with hd | ⟨hd, hd12⟩
        all_goals
          go_wp2
          go_meet
          case rel => exact ⟨m, s, by omega, Hf⟩
  case rest =>
  obtain ⟨m, s, hm20, Hf⟩ := hcut
  go_wp2_with fail
  refine (Fence_own (k := 2) (t := 1) Hf.out.own (by decide) (by decide) (by decide) Hf.out.key2 (by omega)).mono ?_
  rintro e w12 ⟨rfl, h12, hl12⟩
  have H12 := Lib.hid h12
  have HF12 := Lib.hid (Hf.out.lies.left hl12 rfl)
  clear h12 hl12
  go_wp2_with fail
  refine (Registered_own H12.out (by decide)).mono ?_
  rw [show ((s.fence 1).keys 1 == 1) = true from by rw [fence_keys, Hf.out.key]; rfl]
  rintro e w13 ⟨rfl, rfl⟩
  have HP12 := Lib.hid (HP.out.later (Mod.of_below (S := fun _ => False) H12.out.below) (fun _ => id))
  have hpe : (s.fence 1).pend = [1] := by rw [DS.fence, if_pos ⟨Hf.out.key, by rw [Hf.out.pend]; rfl⟩]; show s.pend ++ [1] = [1]; rw [Hf.out.pend]; rfl
  have Hpe := Lib.hid hpe
  clear hpe
  go_wp2_with fail
  refine (Takes_own H12.out Hpe.out (by omega) HP12.out (fun h => .inl (Hgw.out h))).mono ?_
  rintro e w14 ⟨rfl, h14, hl14⟩
  have HF14 := Lib.hid (HF12.out.left hl14 rfl)
  obtain ⟨s2, Hs2⟩ : ∃ s2, Hid ((s.fence 1).taken 1 [] zs = s2) := ⟨_, Lib.hid rfl⟩
  have HN : Hid (Fen w w14 b q (m + 1 + 2) s2) := Lib.hid (by
    have e1 : s2.lies = landed s.lies (s.caches 1) (decs zs) (s.caches 1).length := by
      rw [← Hs2.out]
      show landed (s.fence 1).lies ((s.fence 1).caches 1) (decs zs) ((s.fence 1).caches 1).length = _
      rw [fence_lies, fence_caches]
    refine ⟨by rw [← Hs2.out]; exact h14, by rw [e1, landed_length]; exact Hf.out.four, by rw [← Hs2.out]; rfl, ?_, fun x => ?_, by rw [e1]; exact HF14.out⟩
    · rw [← Hs2.out]
      show ((s.fence 1).keys 2 == 1) = true
      rw [fence_keys, Hf.out.key2]; rfl
    · rw [← Hs2.out]
      by_cases hx : x = 1
      · exact if_pos hx
      · have : ((s.fence 1).taken 1 [] zs).caches x = (s.fence 1).caches x := if_neg hx
        rw [this, fence_caches, Hf.out.other x hx])
  clear h14 hl14
  go_wp2_with fail
  refine (Registered_own HN.out.own (by decide)).mono ?_
  rw [show (s2.keys 1 == 1) = false from by rw [HN.out.key]; rfl]
  rintro e w15 ⟨rfl, rfl⟩
  go_upto_block 4 with (fail)
  go_cut [15] (fun _ wx => ∃ s : DS, Hid (Fen w wx b q (m + 1 + 2) s))
  case first =>
    go_wp2
    go_loopw [15] (fun v wr => ∃ (k : Nat) (s : DS), v = .int .i64 (k : Int) ∧ k ≤ len2 ∧ k ≤ 20 ∧ Hid (Fen w wr b q (m + 1 + 2) s)) (fun v _ => len2 - (intOf v).toNat)
    case atStart => exact ⟨0, _, rfl, Nat.zero_le _, by omega, HN⟩
    case round =>
      obtain ⟨k, s, rfl, hk, hk20, Hf⟩ := hrel
      by_cases hlt : k < len2 ∧ k < 20
      · obtain ⟨hlt, h20⟩ := hlt
        obtain ⟨xb, off, rfl, hop⟩ := Hc2.out (by omega)
        have hopk := (hop k hlt).below Hf.out.own.below
        have z0 := hopk.kind
        have z1 := hopk.key
        have z2 := hopk.sector
        have z3 := hopk.n
        have z4 := hopk.byte
        have z5 := hopk.short
        have z6 := hopk.picks
        obtain ⟨j, Hj, hj4⟩ := and3 (a2 k).sector hopk.wsector
        obtain ⟨x, Hx⟩ : ∃ x, Hid ((a2 k).byte = x) := ⟨_, Lib.hid rfl⟩
        rw [Hx.out] at z4
        obtain ⟨K, HK⟩ : ∃ K, Hid (wr.heap.size = K) := ⟨_, Lib.hid rfl⟩
        obtain ⟨w7, Hw7⟩ : ∃ w7, Hid (wr.alloc (.cells #[.int .i64 (a2 k).kind, .int .i64 (a2 k).key, .int .i64 (a2 k).sector, .int .i64 (a2 k).n, .int .u8 x, .bool (a2 k).short, .slice (a2 k).pa (a2 k).plen (a2 k).pcap] 31) = w7) := ⟨_, Lib.hid rfl⟩
        have H7 := Lib.hid (Hf.out.below (show Below wr.heap.size wr w7 by rw [← Hw7.out]; exact (Below.refl _ _).alloc (Nat.le_refl _) _))
        have Hy4 : Hid (w7.cell? ⟨K, 4, none⟩ = some (.int .u8 x)) := Lib.hid (by rw [← Hw7.out, ← HK.out]; simp [go_sem])
        have HK7 : Hid (K < w7.heap.size) := Lib.hid (by rw [← Hw7.out, ← HK.out]; simp)
        clear hop hopk
        go_wp2_with fail
        rw [Hj.out, Hw7.out, HK.out]
        refine (sector_any x _).mono ?_
        rintro e w8 ⟨rfl, hb8⟩
        have H8 := Lib.hid (H7.out.below hb8)
        have y4 := (hb8.cell (p := ⟨K, 4, none⟩) HK7.out).trans Hy4.out
        have Ht : Hid (thereB s (j : Int) = true) := Lib.hid (thereB_nat (by rw [Hf.out.four]; exact hj4))
        clear hb8 z0 z1 z2 z3 z4 z5 z6
        go_wp2_with fail
        refine (Write_fenced H8.out.own (by decide) Ht.out (sec_length _) H8.out.no1).mono ?_
        rintro e w9 ⟨rfl, rfl⟩
        go_wp2_with fail
        refine (Flush_fenced H8.out.own (by decide) H8.out.no1).mono ?_
        rintro e w9 ⟨rfl, rfl⟩
        obtain ⟨y, Hy⟩ : ∃ y, Hid (s.lies.getD j [] = y) := ⟨_, Lib.hid rfl⟩
        have HPk : Hid (∀ u, Below w8.heap.size w8 u → Calls Try.prog 22 #[.pointer (some ⟨b, 0, none⟩), .int .i64 (j : Int)] u fun e w' => e = .returned (.string (str y)) ∧ u = w') := Lib.hid fun u hu => by
          have := Peek_own (H8.out.own.later hu) (j : Int)
          rw [H8.out.peek hj4, Hy.out] at this
          exact this
        have HSw : Hid (∀ u, Below w8.heap.size w8 u → Calls Try.prog 24 #[.pointer (some ⟨b, 0, none⟩), .int .i64 1, .int .i64 (j : Int), .string (str y), .string (str (sec x))] u fun e w' => e = .returned (.int .i64 14) ∧ u = w') := Lib.hid fun u hu =>
          Swap_fenced (H8.out.own.later hu) (by decide) Ht.out (by rw [← Hy.out]; exact H8.out.whole hj4) (sec_length _) H8.out.no1
        go_wp2_with fail
        go_region_with (first
          | (go_at_call 22; refine (HPk.out _ (by first | exact (Below.refl _ _).drew | exact bnext (Below.refl _ _).drew (by assumption))).mono ?_; rintro e u1 ⟨rfl, rfl⟩)
          | (go_at_call 23; refine (sector_any _ _).mono ?_; rintro e u2 ⟨rfl, hbS⟩)
          | (go_at_call 24; refine (HSw.out _ (bnext (Below.refl _ _).drew (by assumption))).mono ?_; rintro e u3 ⟨rfl, rfl⟩))
        all_goals
          have Hu := Lib.hid (H8.out.below (bnext (Below.refl _ _).drew hbS))
          clear hbS
          go_wp2_with fail
          refine (Fence_fenced (k := 1) (t := 2) Hu.out.own (by decide) (by decide) Hu.out.no1).mono ?_
          rintro e u4 ⟨rfl, rfl⟩
          go_wp2_with fail
          refine (Read_fenced (k := 1) (i := (j : Int)) Hu.out.own (by decide) Ht.out Hu.out.no1).mono ?_
          rintro e u5 ⟨rfl, rfl⟩
          go_wp2_with fail
          obtain ⟨u6, Hu6⟩ : ∃ u6, Hid (u2.alloc (.cells #[.int .i64 1, .int .i64 1, .int .i64 1] 3) = u6) := ⟨_, Lib.hid rfl⟩
          have HO6 := Lib.hid (Hu.out.own.alloc (.cells #[.int .i64 1, .int .i64 1, .int .i64 1] 3))
          rw [Hu6.out] at HO6
          have HF7 : Hid (Four u6 q s.lies) := Lib.hid (Hu.out.lies.below (by rw [← Hu6.out]; exact (Below.refl _ _).alloc (Nat.le_refl _) _))
          have HP6 := Lib.hid (three_picks u2)
          rw [Hu6.out] at HP6
          rw [Hu6.out]
          refine (Drop_own HO6.out (k := 1) (by decide) HP6.out (fun _ => .inr (.inr rfl))).mono ?_
          rintro e u7 ⟨rfl, h7, hl7⟩
          have HN7 := Lib.hid (Hu.out.dropped h7 (.inl rfl) (HF7.out.left hl7 (.inl rfl)))
          clear h7 hl7
          go_wp2
          go_roundw
          case rel => exact ⟨k + 1, _, by go_num, by omega, by omega, HN7⟩
          case measure => simp [intOf]; omega
      · have hd : len2 ≤ k ∨ (k < len2 ∧ 20 ≤ k) := by omega
        clear hlt
        rcases hd with hd | ⟨hd, hd20⟩
        all_goals
          go_wp2
          go_meet
          case rel => exact ⟨s, Hf⟩
  case rest =>
  obtain ⟨s5, Hf5⟩ := hcut
  go_wp2_with fail
  obtain ⟨w16, Hw16⟩ : ∃ w16, Hid (wc.alloc (.cells #[.int .i64 1, .int .i64 1, .int .i64 1] 3) = w16) := ⟨_, Lib.hid rfl⟩
  have HO16 := Lib.hid (Hf5.out.own.alloc (.cells #[.int .i64 1, .int .i64 1, .int .i64 1] 3))
  rw [Hw16.out] at HO16
  have HF16 : Hid (Four w16 q s5.lies) := Lib.hid (Hf5.out.lies.below (by rw [← Hw16.out]; exact (Below.refl _ _).alloc (Nat.le_refl _) _))
  have HP16 := Lib.hid (three_picks wc)
  rw [Hw16.out] at HP16
  rw [Hw16.out]
  refine (Power_own HO16.out (by omega) HP16.out (fun _ => .inr (.inr rfl)) (ks := []) List.Pairwise.nil (fun k => by simp [Hf5.out.cache k])).mono ?_
  rintro e w17 ⟨rfl, h17, hl17⟩
  obtain ⟨s3, Hs3⟩ : ∃ s3, Hid (s5.pendTo [] = s3) := ⟨_, Lib.hid rfl⟩
  have HZ : Hid (Fen w w17 b q (m + 1 + 2 + 1) s3) := Lib.hid (by
    rw [← Hs3.out]
    exact ⟨h17.weak (fun g hg => .inl hg), Hf5.out.four, Hf5.out.key, Hf5.out.key2, Hf5.out.cache, HF16.out.left hl17 (.inl rfl)⟩)
  clear h17 hl17
  go_wp2_with fail
  go_loopw [24] (fun v wr2 => ∃ i : Nat, v = .int .i64 (i : Int) ∧ i ≤ 4 ∧ Hid (Fen w wr2 b q (m + 1 + 2 + 1) s3)) (fun v _ => 4 - (intOf v).toNat)
  case atStart => exact ⟨0, rfl, by omega, HZ⟩
  case round =>
    obtain ⟨i, rfl, hi4, Hg⟩ := hrel
    by_cases hilt : i < 4
    · have hpk := Hg.out.peek hilt
      have ci := Hg.out.lies.cell i hilt
      obtain ⟨y, Hy⟩ : ∃ y, Hid (s3.lies.getD i [] = y) := ⟨_, Lib.hid rfl⟩
      rw [Hy.out] at hpk ci
      have Hpk := Lib.hid hpk
      have i4' : (i : Int) < 4 := by omega
      have i0' : 0 ≤ (i : Int) := by omega
      have HPq : Hid (∀ n, Calls Try.prog 22 #[.pointer (some ⟨b, 0, none⟩), .int .i64 (i : Int)] (wr.drewN n) fun e w' => e = .returned (.string (str y)) ∧ w' = wr.drewN n) := Lib.hid fun n => by
        have := Peek_own (Hg.out.own.later (below_drewN wr n)) (i : Int)
        rw [Hpk.out] at this
        exact this.mono fun e w' ⟨he, hw⟩ => ⟨he, hw.symm⟩
      clear hpk
      go_wp2
      go_quiet ((go_at_call 22; exact Calls.quiet_of_same (HPq.out _)))
      go_wp2
      go_roundw
      case rel => exact ⟨i + 1, by go_num, by omega, Lib.hid (Hg.out.below (below_drewN _ _))⟩
      case measure => simp [intOf]; omega
    · obtain rfl : i = 4 := by omega
      have hre : regE s3 1 = 13 := by rw [regE, if_neg (by decide), if_pos (by rw [Hg.out.key]; decide)]
      have hrs : regS s3 1 = s3 := by rw [regS, if_neg (by decide), if_pos (by rw [Hg.out.key]; decide)]
      have Hre := Lib.hid hre
      have Hrs := Lib.hid hrs
      clear hre hrs
      go_wp2_with fail
      refine (Register_own (k := 1) Hg.out.own (by decide) (by omega)).mono ?_
      rw [Hre.out, Hrs.out]
      rintro e w18 ⟨rfl, h18, _⟩
      have H18 := Lib.hid h18
      clear h18
      go_wp2_with fail
      refine (Registered_own H18.out (by decide)).mono ?_
      rw [Hg.out.key2]
      rintro e w19 ⟨rfl, rfl⟩
      go_wp2_with fail
      refine (Cached_own H18.out (by decide)).mono ?_
      rw [Hg.out.cache 1]
      rintro e w19 ⟨rfl, rfl⟩
      go_wp2
      go_ret
      exact ⟨rfl, H18.out.below⟩
theorem own : ownKnob Try.prog.godebug = none := by kernel_rfl
theorem laidOut : laidOutB Try.prog = true := by kernel_rfl
set_option maxRecDepth 100000 in
theorem lifted (os : Os) (started : os.Started) (H : Type) (enc : TypeId × Value → H) :
    ReturnsInHanded {} Try.checked os 4 .any (Rows.diskFencesSpec.pre6 enc Try.prog Try.f4 Rows.diskFencesRow.domain false) (Rows.diskFencesSpec.post enc Try.prog Try.f4 false true false false) := by
  refine returnsInHanded_of_change (C := Try.checked) own started (by kernel_rfl) Try.func4
    (ChangeSpec.witness6 (enc := enc) (C := Try.checked) false ⟨#[], #[.slice none 0 0, .slice none 0 0, .slice none 0 0], []⟩ 8 (by kernel_rfl) (by kernel_rfl) (by kernel_rfl) (by kernel_rfl)) ?_
  intro W base args ds gs before hval0 hW hcnd _
  have hval : ∀ (j : Nat) t v, Try.f4.params[j]? = some t → args[j]? = some v → Value.okWide Try.prog W .any base t v := hval0
  have hW' := hW
  obtain ⟨p, q, hA0, hV, rfl, hfz, hnd⟩ := hW
  have hA : DataW.TrodAll enc Try.prog W 0 (fun _ => true) true Try.f4.params.toList args.toList ds p := hA0
  rw [Try.params4] at hA hval
  obtain ⟨v0, vs0, d0, ds0, p0, q0, hargs, rfl, rfl, h0, r0⟩ := trodAll_cons hA
  obtain ⟨v1, vs1, d1, ds1, p1, q1, rfl, rfl, rfl, h1, r1⟩ := trodAll_cons r0
  obtain ⟨v2, vs2, d2, ds2, p2, q2, rfl, rfl, rfl, h2, r2⟩ := trodAll_cons r1
  obtain ⟨rfl, rfl, rfl⟩ := trodAll_nil r2
  obtain rfl : args = #[v0, v1, v2] := by cases args; simp_all
  obtain ⟨x0, len0, cap0, a0, rfl, w0, y0⟩ := opens_ops (hval 0 22 v0 rfl rfl) h0
  obtain ⟨x1, len1, cap1, a1, rfl, w1, y1⟩ := opens_intsc Try.underlying29 Try.underlying3 (by kernel_rfl) (hval 1 29 v1 rfl rfl) h1
  obtain ⟨x2, len2, cap2, a2, rfl, w2, y2⟩ := opens_ops (hval 2 22 v2 rfl rfl) h2
  clear hA0 hval0
  refine (walk x0 len0 cap0 a0 x1 len1 cap1 a1 x2 len2 cap2 a2 W w0 y0 w1 y1 w2 y2).mono fun e W' ⟨he, bel⟩ => ?_
  subst he
  exact ⟨_, rfl, law_post laidOut (by rw [Try.params4]; decide +kernel) rfl Try.underlying4 rfl hW' (fun _ => rfl) bel⟩
theorem over : Rows.diskFencesRow.holds Try.pinned (OpenSpec.ofChange Rows.diskFencesSpec) :=
  OpenClaim.holds_of_wide 4 Try.f4 rfl rfl rfl rfl rfl rfl rfl ⟨rfl, rfl, rfl, rfl, rfl⟩ rfl rfl rfl rfl rfl (by kernel_rfl) Try.func4 (by kernel_rfl)
    (of_decide_eq_true (by kernel_rfl)) (by unfold Func.isWrapper; first | (rw [if_pos (by decide +kernel)]; kernel_rfl) | (rw [if_neg (by decide +kernel)]; exact ⟨rfl, rfl⟩))
    (fun os started H enc _ => lifted os started H enc)
theorem proved : Rows.DiskFencesSaid := over
end Go.Proofs.Ytcahccjlompilaa.diskFences
