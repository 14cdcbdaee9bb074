/- What one key has cached is its own: only it reads it, and a flush lays just it down. -/
import Derived.Test.YtcahccjlompilaaRows
import Derived.Test.YtcahccjlompilaaLos04
import Derived.Deep.DeepCutAuto
namespace Go.Proofs.Ytcahccjlompilaa.diskApart
open Go.RowKit Go.ChangeShapes Go.WideShapes Go.ChangeAt
open Go.ChangeMaps (open_string shut_string)

/-- A block of two rows of four texts. -/
structure Eight (w : World) (q : Nat) (l1 l2 : List (List UInt8)) : Prop where
  len1 : l1.length = 4
  len2 : l2.length = 4
  cell1 : ∀ i, i < 4 → w.cell? ⟨q, i, none⟩ = some (.string (str (l1.getD i [])))
  cell2 : ∀ i, i < 4 → w.cell? ⟨q, 4 + i, none⟩ = some (.string (str (l2.getD i [])))
  free : ∀ o, o < 8 → w.frozen? ⟨q, o, none⟩ = false
theorem Eight.lt {w : World} {q : Nat} {l1 l2 : List (List UInt8)} (h : Eight w q l1 l2) : q < w.heap.size := lt_of_cell (h.cell1 0 (by omega))
theorem Eight.made (w : World) (z : List UInt8) (t : TypeId) : Eight (w.alloc (.cells #[.string (str z), .string (str z), .string (str z), .string (str z), .string (str z), .string (str z), .string (str z), .string (str z)] t)) w.heap.size [z, z, z, z] [z, z, z, z] := by
  refine ⟨rfl, rfl, fun i hi => ?_, fun i hi => ?_, fun i hi => by simp [go_sem]⟩
  · match i, hi with
    | 0, _ => simp [go_sem]
    | 1, _ => simp [go_sem]
    | 2, _ => simp [go_sem]
    | 3, _ => simp [go_sem]
  · match i, hi with
    | 0, _ => simp [go_sem]
    | 1, _ => simp [go_sem]
    | 2, _ => simp [go_sem]
    | 3, _ => simp [go_sem]
theorem Eight.set1 {w : World} {q : Nat} {l1 l2 : List (List UInt8)} (h : Eight w q l1 l2) {k : Nat} (hk : k < 4) (x : List UInt8) : Eight (w.setCell ⟨q, k, none⟩ (.string (str x))) q (l1.set k x) l2 := by
  refine ⟨by rw [List.length_set]; exact h.len1, h.len2, fun i hi => ?_, fun i hi => set_other (fun e => by injection e; omega) (h.cell2 i hi), fun o ho => set_frozen (h.free o ho)⟩
  by_cases e : k = i
  · subst e
    rw [set_same (h.cell1 k hi)]
    simp [List.getD, show k < l1.length by rw [h.len1]; exact hi]
  · rw [set_other (fun h => e (by injection h)) (h.cell1 i hi)]
    simp [List.getD, e]
theorem Eight.set2 {w : World} {q : Nat} {l1 l2 : List (List UInt8)} (h : Eight w q l1 l2) {k : Nat} (_ : k < 4) (x : List UInt8) : Eight (w.setCell ⟨q, 4 + k, none⟩ (.string (str x))) q l1 (l2.set k x) := by
  refine ⟨h.len1, by rw [List.length_set]; exact h.len2, fun i hi => set_other (fun e => by injection e; omega) (h.cell1 i hi), fun i hi => ?_, fun o ho => set_frozen (h.free o ho)⟩
  by_cases e : k = i
  · subst e
    rw [set_same (h.cell2 k hi)]
    simp [List.getD, show k < l2.length by rw [h.len2]; exact hi]
  · rw [set_other (fun h => e (by injection h; omega)) (h.cell2 i hi)]
    simp [List.getD, e]
theorem Eight.same {w w' : World} {q : Nat} {l1 l2 : List (List UInt8)} (h : Eight w q l1 l2) (hc : ∀ o, w'.cell? ⟨q, o, none⟩ = w.cell? ⟨q, o, none⟩) (hf : ∀ o, w'.frozen? ⟨q, o, none⟩ = w.frozen? ⟨q, o, none⟩) : Eight w' q l1 l2 :=
  ⟨h.len1, h.len2, fun i hi => (hc i).trans (h.cell1 i hi), fun i hi => (hc _).trans (h.cell2 i hi), fun o ho => (hf o).trans (h.free o ho)⟩
theorem Eight.left {W w w' : World} {T : Nat → Prop} {q : Nat} {l1 l2 : List (List UInt8)} (h : Eight w q l1 l2) (m : Left W T w w') (hq : T q) : Eight w' q l1 l2 :=
  h.same (fun _ => m.cell hq h.lt) (fun _ => m.frozen hq h.lt)
theorem Eight.below {w w' : World} {q : Nat} {l1 l2 : List (List UInt8)} (h : Eight w q l1 l2) (m : Below w.heap.size w w') : Eight w' q l1 l2 :=
  h.same (fun o => m.cell (p := ⟨q, o, none⟩) h.lt) (fun o => m.frozen (p := ⟨q, o, none⟩) h.lt)
theorem cacheTo_same (s : DS) (k : Int) (l : List (Nat × List UInt8)) : (s.cacheTo k l).caches k = l := if_pos rfl
theorem cacheTo_other (s : DS) {k x : Int} (l : List (Nat × List UInt8)) (h : x ≠ k) : (s.cacheTo k l).caches x = s.caches x := if_neg h
/-- What holds at each round's head. -/
structure Apt (W w : World) (b q m : Nat) (s : DS) : Prop where
  own : Own W w b m s (fun g => g = q)
  zero : s.lies = [zero512, zero512, zero512, zero512]
  key : s.keys 1 = 1
  key2 : s.keys 2 = 1
  cells : Eight w q (allOf s.lies (s.caches 1)) (allOf s.lies (s.caches 2))
theorem Apt.four {W w : World} {b q m : Nat} {s : DS} (h : Apt W w b q m s) : s.lies.length = 4 := by rw [h.zero]; rfl
theorem Apt.below {W w w' : World} {b q m : Nat} {s : DS} (h : Apt W w b q m s) (k : Below w.heap.size w w') : Apt W w' b q m s :=
  ⟨h.own.later k, h.zero, h.key, h.key2, h.cells.below k⟩
theorem Apt.wrote1 {W w w' : World} {b q m m' j : Nat} {s : DS} {l : List UInt8} {w0 : World} (h : Apt W w0 b q m' s) (hE : Eight w q ((allOf s.lies (s.caches 1)).set j l) (allOf s.lies (s.caches 2))) (hO : Own W w' b m (s.cacheTo 1 (s.caches 1 ++ [(j, l)])) (fun g => g = q)) (hl : Left W (fun g => g = q) w w') :
    Apt W w' b q m (s.cacheTo 1 (s.caches 1 ++ [(j, l)])) := by
  have e1 : (s.cacheTo 1 (s.caches 1 ++ [(j, l)])).caches 1 = s.caches 1 ++ [(j, l)] := cacheTo_same _ _ _
  have e2 : (s.cacheTo 1 (s.caches 1 ++ [(j, l)])).caches 2 = s.caches 2 := cacheTo_other _ _ (by decide)
  refine ⟨hO, h.zero, h.key, h.key2, ?_⟩
  rw [e1, e2]
  show Eight w' q (allOf s.lies (s.caches 1 ++ [(j, l)])) (allOf s.lies (s.caches 2))
  rw [allOf_snoc]
  exact hE.left hl rfl
theorem Apt.wrote2 {W w w' : World} {b q m m' j : Nat} {s : DS} {l : List UInt8} {w0 : World} (h : Apt W w0 b q m' s) (hE : Eight w q (allOf s.lies (s.caches 1)) ((allOf s.lies (s.caches 2)).set j l)) (hO : Own W w' b m (s.cacheTo 2 (s.caches 2 ++ [(j, l)])) (fun g => g = q)) (hl : Left W (fun g => g = q) w w') :
    Apt W w' b q m (s.cacheTo 2 (s.caches 2 ++ [(j, l)])) := by
  have e1 : (s.cacheTo 2 (s.caches 2 ++ [(j, l)])).caches 1 = s.caches 1 := cacheTo_other _ _ (by decide)
  have e2 : (s.cacheTo 2 (s.caches 2 ++ [(j, l)])).caches 2 = s.caches 2 ++ [(j, l)] := cacheTo_same _ _ _
  refine ⟨hO, h.zero, h.key, h.key2, ?_⟩
  rw [e1, e2]
  show Eight w' q (allOf s.lies (s.caches 1)) (allOf s.lies (s.caches 2 ++ [(j, l)]))
  rw [allOf_snoc]
  exact hE.left hl rfl
theorem Apt.peek {W w : World} {b q m : Nat} {s : DS} (h : Apt W w b q m s) {i : Nat} (hi : i < 4) : lieI s (i : Int) = zero512 := by
  have hl : i < s.lies.length := by rw [h.four]; exact hi
  have hm : s.lies[i] ∈ s.lies := List.getElem_mem hl
  have hz : ∀ x ∈ s.lies, x = zero512 := by rw [h.zero]; simp
  rw [lieI_nat hl]
  exact hz _ hm
/-- What holds behind key 1's flush. -/
structure Apf (W w : World) (b q m : Nat) (s : DS) (l1 l2 : List (List UInt8)) (B : Nat → Bool) : Prop where
  own : Own W w b m s (fun g => g = q)
  four : s.lies.length = 4
  key2 : s.keys 2 = 1
  lie : s.lies = l1
  cells : Eight w q l1 l2
  read : ∀ i, i < 4 → readS s 2 i = if B i = true then l2.getD i [] else l1.getD i []
theorem Apf.below {W w w' : World} {b q m : Nat} {s : DS} {l1 l2 : List (List UInt8)} {B : Nat → Bool} (h : Apf W w b q m s l1 l2 B) (k : Below w.heap.size w w') : Apf W w' b q m s l1 l2 B :=
  ⟨h.own.later k, h.four, h.key2, h.lie, h.cells.below k, h.read⟩
theorem Apf.peek {W w : World} {b q m : Nat} {s : DS} {l1 l2 : List (List UInt8)} {B : Nat → Bool} (h : Apf W w b q m s l1 l2 B) {i : Nat} (hi : i < 4) : lieI s (i : Int) = l1.getD i [] := by
  have hl : i < s.lies.length := by rw [h.four]; exact hi
  rw [lieI_nat hl, ← h.lie, List.getD_eq_getElem?_getD, List.getElem?_eq_getElem hl]; rfl
/-- Has one of the first so many been for this sector? -/
def wroteB (F : Nat → Nat) : Nat → Nat → Bool
  | 0, _ => false
  | k + 1, i => wroteB F k i || F k == i
theorem lastB_snoc (c : List (Nat × List UInt8)) (p : Nat × List UInt8) (i : Nat) : lastB (c ++ [p]) i = (lastB c i || p.1 == i) := by
  rw [lastB, lastO_snoc]
  by_cases h : p.1 = i
  · simp [h]
  · have : (p.1 == i) = false := by simpa using h
    rw [if_neg h, this, Bool.or_false, lastB]
/-- What key 2 reads behind key 1's flush. -/
theorem read_behind (s : DS) {i : Nat} (hi : i < s.lies.length) : readS (s.settle 1 (fun _ => true)) 2 i = if lastB (s.caches 2) i = true then (allOf s.lies (s.caches 2)).getD i [] else (allOf s.lies (s.caches 1)).getD i [] := by
  have h := read_all s.lies i hi (s.caches 2).reverse
  rw [List.reverse_reverse] at h
  have e : (s.settle 1 (fun _ => true)).caches 2 = s.caches 2 := cacheTo_other (s.liesTo _) [] (by decide)
  rw [readS, e, h]
  by_cases hb : lastB (s.caches 2) i = true
  · rw [if_pos hb, if_pos hb, if_pos hb]
  · rw [if_neg hb, if_neg hb]; rfl
set_option maxRecDepth 100000 in
set_option maxHeartbeats 4000000 in
theorem walk (x0 : Option Addr) (len0 cap0 : Nat) (a0 : Nat → OpV) (x1 : Option Addr) (len1 cap1 : Nat) (a1 : Nat → OpV) (w : World) (w0 : IsOps w x0 len0 a0) (_ : len0 ≤ cap0) (w1 : IsOps w x1 len1 a1) (_ : len1 ≤ cap1) :
    Calls Try.prog 5 #[.slice x0 len0 cap0, .slice x1 len1 cap1] w fun e w' => e = .returned (.bool true) ∧ Below w.heap.size w w' := by
  have hm0 : len0 ≤ 9223372036854775807 := w0.max
  have hm1 : len1 ≤ 9223372036854775807 := w1.max
  have Hc0 := Lib.hid w0.cells
  have Hc1 := Lib.hid w1.cells
  clear w0 w1
  have hmk := fun w => mkn w 512 (by omega) (by omega)
  have hcv : ∀ w : World, _ := fun w => cvn w 512
  rw [show List.replicate 512 (0 : UInt8) = zero512 from rfl] at hcv
  go_enter Try.func5, Try.ntmps5
  go_wp2_with fail
  refine (awake_any _).mono ?_
  rintro e w2 ⟨rfl, hb2⟩
  have Hb2 := Lib.hid hb2
  clear hb2
  go_wp2_with fail
  refine (New_own w 4 (by decide) Hb2.out).mono ?_
  rintro e w3 ⟨b, rfl, h3, _⟩
  have H3 := Lib.hid h3
  clear h3
  go_wp2_with fail
  refine (Register_own H3.out (by decide) (by omega)).mono ?_
  rw [show regE (DS.new (sectorsN 4)) 1 = 0 from rfl]
  rintro e w3' ⟨rfl, h3', _⟩
  have H3' := Lib.hid h3'
  clear h3'
  go_wp2_with fail
  refine (Register_own H3'.out (by decide) (by omega)).mono ?_
  rw [show regE (regS (DS.new (sectorsN 4)) 1) 2 = 0 from rfl]
  rintro e w4 ⟨rfl, h4, _⟩
  have H4 := Lib.hid h4
  clear h4
  go_upto_block 0 with (fail)
  obtain ⟨w5, Hw5⟩ : ∃ w5, Hid (w4.alloc (zeroObj 512) = w5) := ⟨_, Lib.hid rfl⟩
  have H5 : Hid (Own w w5 b 2 (regS (regS (DS.new (sectorsN 4)) 1) 2) (fun _ => False)) := Lib.hid (by rw [← Hw5.out]; exact H4.out.later ((Below.refl _ _).alloc (Nat.le_refl _) _))
  obtain ⟨q, Hq⟩ : ∃ q, Hid (w4.heap.size + 1 = q) := ⟨_, Lib.hid rfl⟩
  have hq5 : w5.heap.size = q := by rw [← Hw5.out, ← Hq.out]; simp
  rw [Hw5.out, Hq.out]
  obtain ⟨w6, Hw6⟩ : ∃ w6, Hid (w5.alloc (.cells #[.string (str zero512), .string (str zero512), .string (str zero512), .string (str zero512), .string (str zero512), .string (str zero512), .string (str zero512), .string (str zero512)] 61) = w6) := ⟨_, Lib.hid rfl⟩
  have hO6 : Own w w6 b 2 (regS (regS (DS.new (sectorsN 4)) 1) 2) (fun g => g = q) := by
    have h := (H5.out.alloc (.cells #[.string (str zero512), .string (str zero512), .string (str zero512), .string (str zero512), .string (str zero512), .string (str zero512), .string (str zero512), .string (str zero512)] 61))
    rw [Hw6.out, hq5] at h
    exact h.weak (fun g hg => .inr hg)
  have hE6 : Eight w6 q [zero512, zero512, zero512, zero512] [zero512, zero512, zero512, zero512] := by
    have h := Eight.made w5 zero512 61
    rwa [hq5, Hw6.out] at h
  have HI : Hid (Apt w w6 b q 2 (regS (regS (DS.new (sectorsN 4)) 1) 2)) := Lib.hid ⟨hO6, rfl, rfl, rfl, hE6⟩
  have HqW : Hid (w.heap.size ≤ q) := Lib.hid (by rw [← hq5]; exact H5.out.below.size)
  clear hO6 hE6 hq5
  rw [Hw6.out]
  go_cut [9] (fun _ wx => ∃ (m : Nat) (s : DS), m ≤ 20 ∧ Hid (s.caches 2 = []) ∧ Hid (Apt w wx b q m s))
  case first =>
    go_wp2
    go_loopw [9] (fun v wr => ∃ (k m : Nat) (s : DS), v = .int .i64 (k : Int) ∧ k ≤ len0 ∧ k ≤ 12 ∧ m ≤ k + 2 ∧ Hid (s.caches 2 = []) ∧ Hid (Apt w wr b q m s)) (fun v _ => len0 - (intOf v).toNat)
    case atStart => exact ⟨0, 2, _, rfl, Nat.zero_le _, by omega, by omega, Lib.hid rfl, HI⟩
    case round =>
      obtain ⟨k, m, s, rfl, hk, hk12, hmk, Hn2, Hf⟩ := hrel
      by_cases hlt : k < len0 ∧ k < 12
      · obtain ⟨hlt, h12⟩ := hlt
        obtain ⟨xb, off, rfl, hop⟩ := Hc0.out (by omega)
        have hopk := (hop k hlt).below Hf.out.own.below
        have xs := hopk.sector
        have xb' := hopk.byte
        obtain ⟨j, Hj, hj4⟩ := and3 (a0 k).sector hopk.wsector
        obtain ⟨x, Hx⟩ : ∃ x, Hid ((a0 k).byte = x) := ⟨_, Lib.hid rfl⟩
        rw [Hx.out] at xb'
        clear hop hopk
        go_wp2_with fail
        rw [Hj.out]
        refine (sector_any x _).mono ?_
        rintro e w8 ⟨rfl, hb8⟩
        have H8 := Lib.hid (Hf.out.below hb8)
        have cj := H8.out.cells.cell1 j hj4
        have fj := H8.out.cells.free j (by omega)
        have HE9 := Lib.hid (H8.out.cells.set1 hj4 (sec x))
        have HO9 := Lib.hid (H8.out.own.set (q := q) (o := j) rfl HqW.out (.string (str (sec x))))
        have hj4' : (j : Int) < 4 := by omega
        clear hb8
        go_wp2_with fail
        refine (Write_own (i := j) HO9.out (by decide) (by rw [Hf.out.four]; exact hj4) (sec_length _) Hf.out.key (by omega)).mono ?_
        rintro e w10 ⟨rfl, h10, hl10⟩
        have H10 := Lib.hid (Apt.wrote1 Hf.out HE9.out h10 hl10)
        have Hn2' : Hid ((s.cacheTo 1 (s.caches 1 ++ [(j, sec x)])).caches 2 = []) := Lib.hid ((cacheTo_other s _ (by decide)).trans Hn2.out)
        clear h10 hl10
        go_wp2
        go_roundw
        case rel => exact ⟨k + 1, m + 1, _, by go_num, by omega, by omega, by omega, Hn2', H10⟩
        case measure => simp [intOf]; omega
      · have hd : len0 ≤ k ∨ (k < len0 ∧ 12 ≤ k) := by omega
        clear hlt
        rcases hd with hd | ⟨hd, hd12⟩
        all_goals
          go_wp2
          go_meet
          case rel => exact ⟨m, s, by omega, Hn2, Hf⟩
  case rest =>
  obtain ⟨m, s, hm20, Hn2, Hf⟩ := hcut
  obtain ⟨F, HF⟩ : ∃ F : Nat → Nat, Hid (∀ k, k < len1 → bits .and .i64 (a1 k).sector 3 = (F k : Int) ∧ F k < 4) := by
    have h : ∀ k, ∃ f : Nat, k < len1 → bits .and .i64 (a1 k).sector 3 = (f : Int) ∧ f < 4 := fun k => by
      by_cases hk : k < len1
      · obtain ⟨xb, off, _, hop⟩ := Hc1.out (by omega)
        obtain ⟨j, Hj, hj4⟩ := and3 (a1 k).sector (hop k hk).wsector
        exact ⟨j, fun _ => ⟨Hj.out, hj4⟩⟩
      · exact ⟨0, fun h => absurd h hk⟩
    exact ⟨fun k => (h k).choose, Lib.hid fun k => (h k).choose_spec⟩
  go_upto_block 2 with (fail)
  go_cut [11] (fun _ wx => ∃ (m : Nat) (s : DS), m ≤ 40 ∧ Hid (∀ i, lastB (s.caches 2) i = wroteB F (min len1 12) i) ∧ Hid (Apt w wx b q m s))
  case first =>
    go_wp2
    go_loopw [11] (fun v wr => ∃ (k m : Nat) (s : DS), v = .int .i64 (k : Int) ∧ k ≤ len1 ∧ k ≤ 12 ∧ m ≤ k + 20 ∧ Hid (∀ i, lastB (s.caches 2) i = wroteB F k i) ∧ Hid (Apt w wr b q m s)) (fun v _ => len1 - (intOf v).toNat)
    case atStart => exact ⟨0, m, s, rfl, Nat.zero_le _, by omega, by omega, Lib.hid (fun i => by rw [Hn2.out]; rfl), Hf⟩
    case round =>
      obtain ⟨k, m, s, rfl, hk, hk12, hmk, Hn2, Hf⟩ := hrel
      by_cases hlt : k < len1 ∧ k < 12
      · obtain ⟨hlt, h12⟩ := hlt
        obtain ⟨xb, off, rfl, hop⟩ := Hc1.out (by omega)
        have hopk := (hop k hlt).below Hf.out.own.below
        have xs := hopk.sector
        have xb' := hopk.byte
        obtain ⟨hj, hj4⟩ := HF.out k hlt
        have Hj := Lib.hid hj
        clear hj
        obtain ⟨j, Hjn⟩ : ∃ j, Hid (F k = j) := ⟨_, Lib.hid rfl⟩
        rw [Hjn.out] at Hj hj4
        obtain ⟨x, Hx⟩ : ∃ x, Hid ((a1 k).byte = x) := ⟨_, Lib.hid rfl⟩
        rw [Hx.out] at xb'
        clear hop hopk
        go_wp2_with fail
        rw [Hj.out]
        refine (sector_any x _).mono ?_
        rintro e w8 ⟨rfl, hb8⟩
        have H8 := Lib.hid (Hf.out.below hb8)
        have cj := H8.out.cells.cell2 j hj4
        have fj := H8.out.cells.free (4 + j) (by omega)
        have HE9 := Lib.hid (H8.out.cells.set2 hj4 (sec x))
        have HO9 := Lib.hid (H8.out.own.set (q := q) (o := 4 + j) rfl HqW.out (.string (str (sec x))))
        have hj4' : (j : Int) < 4 := by omega
        clear hb8
        go_wp2_with fail
        refine (Write_own (i := j) HO9.out (by decide) (by rw [Hf.out.four]; exact hj4) (sec_length _) Hf.out.key2 (by omega)).mono ?_
        rintro e w10 ⟨rfl, h10, hl10⟩
        have H10 := Lib.hid (Apt.wrote2 Hf.out HE9.out h10 hl10)
        have Hn2' : Hid (∀ i, lastB ((s.cacheTo 2 (s.caches 2 ++ [(j, sec x)])).caches 2) i = wroteB F (k + 1) i) := Lib.hid (fun i => by
          rw [cacheTo_same, lastB_snoc, Hn2.out i, wroteB, Hjn.out])
        clear h10 hl10
        go_wp2
        go_roundw
        case rel => exact ⟨k + 1, m + 1, _, by go_num, by omega, by omega, by omega, Hn2', H10⟩
        case measure => simp [intOf]; omega
      · have hd : len1 ≤ k ∨ (k < len1 ∧ 12 ≤ k) := by omega
        clear hlt
        rcases hd with hd | ⟨hd, hd12⟩
        all_goals
          go_wp2
          go_meet
          case rel => exact ⟨m, s, by omega, Lib.hid (fun i => by rw [show min len1 12 = k by omega]; exact Hn2.out i), Hf⟩
  case rest =>
  obtain ⟨m, s, hm40, Hn2, Hf⟩ := hcut
  go_upto_block 4 with (fail)
  go_cut [13] (fun _ wx => Hid (Apt w wx b q m s))
  case first =>
    go_wp2
    go_loopw [13] (fun v wr => ∃ i : Nat, v = .int .i64 (i : Int) ∧ i ≤ 4 ∧ Hid (Apt w wr b q m s)) (fun v _ => 4 - (intOf v).toNat)
    case atStart => exact ⟨0, rfl, by omega, Hf⟩
    case round =>
      obtain ⟨i, rfl, hi4, Hg⟩ := hrel
      by_cases hilt : i < 4
      · have i4' : (i : Int) < 4 := by omega
        have i0' : 0 ≤ (i : Int) := by omega
        obtain ⟨y, Hy⟩ : ∃ y, Hid ((allOf s.lies (s.caches 1)).getD i [] = y) := ⟨_, Lib.hid rfl⟩
        obtain ⟨z, Hz⟩ : ∃ z, Hid ((allOf s.lies (s.caches 2)).getD i [] = z) := ⟨_, Lib.hid rfl⟩
        have Hpk := Lib.hid (Hg.out.peek hilt)
        go_wp2_with fail
        refine (Read_own (k := 1) Hg.out.own (by decide) (by rw [Hg.out.four]; exact hilt) Hg.out.key).mono ?_
        rw [readS_all (by rw [Hg.out.four]; exact hilt), Hy.out]
        rintro e w12 ⟨rfl, hb12⟩
        have H12 := Lib.hid (Hg.out.below hb12)
        clear hb12
        go_wp2_with fail
        refine (Read_own (k := 2) H12.out.own (by decide) (by rw [Hg.out.four]; exact hilt) Hg.out.key2).mono ?_
        rw [readS_all (by rw [Hg.out.four]; exact hilt), Hz.out]
        rintro e w13 ⟨rfl, hb13⟩
        have H13 := Lib.hid (H12.out.below hb13)
        have c1 := H13.out.cells.cell1 i hilt
        have c2 := H13.out.cells.cell2 i hilt
        rw [Hy.out] at c1
        rw [Hz.out] at c2
        clear hb13
        go_wp2_with fail
        refine (Peek_own H13.out.own (i : Int)).mono ?_
        rw [Hpk.out]
        rintro e w14 ⟨rfl, rfl⟩
        go_wp2
        go_roundw
        case rel => exact ⟨i + 1, by go_num, by omega, H13⟩
        case measure => simp [intOf]; omega
      · obtain rfl : i = 4 := by omega
        go_wp2
        go_meet
        case rel => exact Hg
  case rest =>
  have Hf3 := hcut
  clear hcut
  go_wp2_with fail
  refine (Flush_own (k := 1) Hf3.out.own (by decide) Hf3.out.key).mono ?_
  rintro e w15 ⟨rfl, h15, hl15⟩
  obtain ⟨l1, Hl1⟩ : ∃ l1, Hid (allOf s.lies (s.caches 1) = l1) := ⟨_, Lib.hid rfl⟩
  obtain ⟨l2, Hl2⟩ : ∃ l2, Hid (allOf s.lies (s.caches 2) = l2) := ⟨_, Lib.hid rfl⟩
  obtain ⟨s3, Hs3⟩ : ∃ s3, Hid (s.settle 1 (fun _ => true) = s3) := ⟨_, Lib.hid rfl⟩
  have HZ : Hid (Apf w w15 b q m s3 l1 l2 (wroteB F (min len1 12))) := Lib.hid (by
    have hc := Hf3.out.cells.left hl15 rfl
    rw [Hl1.out, Hl2.out] at hc
    refine ⟨by rw [← Hs3.out]; exact h15, by rw [← Hs3.out, settle_all, allOf_length]; exact Hf3.out.four, by rw [← Hs3.out]; exact Hf3.out.key2, by rw [← Hs3.out, settle_all, Hl1.out], hc, fun i hi => ?_⟩
    rw [← Hs3.out, read_behind s (by rw [Hf3.out.four]; exact hi), Hn2.out i, Hl1.out, Hl2.out])
  clear h15 hl15
  go_wp2_with fail
  go_loopw [18] (fun v wr => ∃ i : Nat, v = .int .i64 (i : Int) ∧ i ≤ 4 ∧ Hid (Apf w wr b q m s3 l1 l2 (wroteB F (min len1 12)))) (fun v _ => 4 - (intOf v).toNat)
  case atStart => exact ⟨0, rfl, by omega, HZ⟩
  case round =>
    obtain ⟨i, rfl, hi4, Hg⟩ := hrel
    by_cases hilt : i < 4
    · have i4' : (i : Int) < 4 := by omega
      have i0' : 0 ≤ (i : Int) := by omega
      obtain ⟨y, Hy⟩ : ∃ y, Hid (l1.getD i [] = y) := ⟨_, Lib.hid rfl⟩
      obtain ⟨z, Hz⟩ : ∃ z, Hid (l2.getD i [] = z) := ⟨_, Lib.hid rfl⟩
      obtain ⟨r, Hr⟩ : ∃ r, Hid ((if wroteB F (min len1 12) i = true then z else y) = r) := ⟨_, Lib.hid rfl⟩
      have Hrd : Hid (readS s3 2 i = r) := Lib.hid (by rw [Hg.out.read i hilt, Hy.out, Hz.out, Hr.out])
      have Hpk : Hid (lieI s3 (i : Int) = y) := Lib.hid (by rw [Hg.out.peek hilt, Hy.out])
      have ci := Hg.out.cells.cell1 i hilt
      rw [Hy.out] at ci
      have HPq : Hid (∀ n, Calls Try.prog 22 #[.pointer (some ⟨b, 0, none⟩), .int .i64 (i : Int)] (wr.drewN n) fun e w' => e = .returned (.string (str y)) ∧ w' = wr.drewN n) := Lib.hid fun n => by
        have := Peek_own (Hg.out.own.later (below_drewN wr n)) (i : Int)
        rw [Hpk.out] at this
        exact this.mono fun e w' ⟨he, hw⟩ => ⟨he, hw.symm⟩
      go_wp2
      go_quiet ((go_at_call 22; exact Calls.quiet_of_same (HPq.out _)))
      go_wp2_with fail
      refine (Read_own (k := 2) (Hg.out.below (below_drewN wr _)).own (by decide) (by rw [Hg.out.four]; exact hilt) Hg.out.key2).mono ?_
      rw [Hrd.out]
      rintro e w16 ⟨rfl, hb16⟩
      have H16 := Lib.hid (Apf.below (Hg.out.below (below_drewN wr _)) hb16)
      clear hb16 ci
      go_upto_block 8 with (fail)
      go_cut [21, 22] (fun v _ wx => v = .bool (wroteB F (min len1 12) i) ∧ wx = w16)
      case first =>
        go_wp2
        go_loopw [21, 22] (fun v iv wr2 => ∃ k : Nat, v = .bool (wroteB F k i) ∧ iv = .int .i64 (k : Int) ∧ k ≤ len1 ∧ k ≤ 12 ∧ wr2 = w16) (fun _ iv _ => len1 - (intOf iv).toNat)
        case atStart => exact ⟨0, rfl, rfl, Nat.zero_le _, by omega, rfl⟩
        case round =>
          obtain ⟨k, rfl, rfl, hk, hk12, hwr⟩ := hrel
          subst hwr
          by_cases hlt : k < len1 ∧ k < 12
          · obtain ⟨hlt, h12⟩ := hlt
            obtain ⟨xb, off, rfl, hop⟩ := Hc1.out (by omega)
            have hopk := (hop k hlt).below H16.out.own.below
            have xs := hopk.sector
            obtain ⟨hj, hj4⟩ := HF.out k hlt
            clear hop hopk
            cases hB : wroteB F k i with
            | true =>
              have Hnx : Hid (wroteB F (k + 1) i = true) := Lib.hid (by rw [wroteB, hB]; rfl)
              clear hB
              go_wp2
              go_roundw
              case rel => exact ⟨k + 1, by rw [Hnx.out], by go_num, by omega, by omega, trivial⟩
              case measure => simp [intOf]; omega
            | false =>
              by_cases hF : F k = i
              · have he : ((F k : Int) == (i : Int)) = true := beq_yes (by omega)
                have Hnx : Hid (wroteB F (k + 1) i = true) := Lib.hid (by rw [wroteB, hB, hF]; simp)
                clear hB hF
                go_wp2
                go_roundw
                case rel => exact ⟨k + 1, by rw [Hnx.out], by go_num, by omega, by omega, trivial⟩
                case measure => simp [intOf]; omega
              · have he : ((F k : Int) == (i : Int)) = false := beq_no (by omega)
                have Hnx : Hid (wroteB F (k + 1) i = false) := Lib.hid (by rw [wroteB, hB]; simpa using hF)
                clear hB hF
                go_wp2
                go_roundw
                case rel => exact ⟨k + 1, by rw [Hnx.out], by go_num, by omega, by omega, trivial⟩
                case measure => simp [intOf]; omega
          · have hd : len1 ≤ k ∨ (k < len1 ∧ 12 ≤ k) := by omega
            have Hkk : Hid (min len1 12 = k) := Lib.hid (by omega)
            clear hlt
            rcases hd with hd | ⟨hd, hd12⟩
            all_goals
              go_wp2
              go_meet
              case rel => exact ⟨by rw [Hkk.out], rfl⟩
      case rest =>
        obtain ⟨rfl, hwx⟩ := hcut
        subst hwx
        have c1 := H16.out.cells.cell1 i hilt
        have c2 := H16.out.cells.cell2 i hilt
        rw [Hy.out] at c1
        rw [Hz.out] at c2
        cases hB : wroteB F (min len1 12) i with
        | true =>
          obtain rfl : z = r := by rw [← Hr.out, if_pos hB]
          clear hB
          go_wp2
          go_roundw
          case rel => exact ⟨i + 1, by go_num, by omega, H16⟩
          case measure => simp [intOf]; omega
        | false =>
          obtain rfl : y = r := by rw [← Hr.out, if_neg (by rw [hB]; decide)]
          clear hB
          go_wp2
          go_roundw
          case rel => exact ⟨i + 1, by go_num, by omega, H16⟩
          case measure => simp [intOf]; omega
    · obtain rfl : i = 4 := by omega
      go_wp2
      go_ret
      exact ⟨rfl, Hg.out.own.below⟩
theorem own : ownKnob Try.prog.godebug = none := by kernel_rfl
theorem laidOut : laidOutB Try.prog = true := by kernel_rfl
set_option maxRecDepth 100000 in
theorem lifted (os : Os) (started : os.Started) (H : Type) (enc : TypeId × Value → H) :
    ReturnsInHanded {} Try.checked os 5 .any (Rows.diskApartSpec.pre6 enc Try.prog Try.f5 Rows.diskApartRow.domain false) (Rows.diskApartSpec.post enc Try.prog Try.f5 false true false false) := by
  refine returnsInHanded_of_change (C := Try.checked) own started (by kernel_rfl) Try.func5
    (ChangeSpec.witness6 (enc := enc) (C := Try.checked) false ⟨#[], #[.slice none 0 0, .slice none 0 0], []⟩ 8 (by kernel_rfl) (by kernel_rfl) (by kernel_rfl) (by kernel_rfl)) ?_
  intro W base args ds gs before hval0 hW hcnd _
  have hval : ∀ (j : Nat) t v, Try.f5.params[j]? = some t → args[j]? = some v → Value.okWide Try.prog W .any base t v := hval0
  have hW' := hW
  obtain ⟨p, q, hA0, hV, rfl, hfz, hnd⟩ := hW
  have hA : DataW.TrodAll enc Try.prog W 0 (fun _ => true) true Try.f5.params.toList args.toList ds p := hA0
  rw [Try.params5] at hA hval
  obtain ⟨v0, vs0, d0, ds0, p0, q0, hargs, rfl, rfl, h0, r0⟩ := trodAll_cons hA
  obtain ⟨v1, vs1, d1, ds1, p1, q1, rfl, rfl, rfl, h1, r1⟩ := trodAll_cons r0
  obtain ⟨rfl, rfl, rfl⟩ := trodAll_nil r1
  obtain rfl : args = #[v0, v1] := by cases args; simp_all
  obtain ⟨x0, len0, cap0, a0, rfl, w0, y0⟩ := opens_ops (hval 0 22 v0 rfl rfl) h0
  obtain ⟨x1, len1, cap1, a1, rfl, w1, y1⟩ := opens_ops (hval 1 22 v1 rfl rfl) h1
  clear hA0 hval0
  refine (walk x0 len0 cap0 a0 x1 len1 cap1 a1 W w0 y0 w1 y1).mono fun e W' ⟨he, bel⟩ => ?_
  subst he
  exact ⟨_, rfl, law_post laidOut (by rw [Try.params5]; decide +kernel) rfl Try.underlying4 rfl hW' (fun _ => rfl) bel⟩
theorem over : Rows.diskApartRow.holds Try.pinned (OpenSpec.ofChange Rows.diskApartSpec) :=
  OpenClaim.holds_of_wide 5 Try.f5 rfl rfl rfl rfl rfl rfl rfl ⟨rfl, rfl, rfl, rfl, rfl⟩ rfl rfl rfl rfl rfl (by kernel_rfl) Try.func5 (by kernel_rfl)
    (of_decide_eq_true (by kernel_rfl)) (by unfold Func.isWrapper; first | (rw [if_pos (by decide +kernel)]; kernel_rfl) | (rw [if_neg (by decide +kernel)]; exact ⟨rfl, rfl⟩))
    (fun os started H enc _ => lifted os started H enc)
theorem proved : Rows.DiskApartSaid := over
end Go.Proofs.Ytcahccjlompilaa.diskApart
