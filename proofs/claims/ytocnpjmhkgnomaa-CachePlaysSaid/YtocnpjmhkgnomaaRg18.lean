/- What is set, put, loaded and asked of the document's cache, at this translation. -/
import Derived.Test.YtocnpjmhkgnomaaRf18
namespace Go.Proofs.Ytocnpjmhkgnomaa
open Go.RowKit Go.MapKept Go.Sort

theorem lnInf : Inf 27 63 3 32 := by
  refine ⟨Try.underlying27, ?_⟩
  obtain ⟨i, hi, hz, hs, hb⟩ := info_parts (show (Try.prog.info? 63).map (fun i => (i.zero, i.size, i.bytes)) = some (some (.agg #[.int .i64 0, .string (str []), .bool false]), 3, 32) by kernel_rfl)
  exact ⟨i, _, hi, hz, hs, hb, rfl⟩
theorem lnOne (w : World) (x : Li) : IsG (w.alloc (.cells #[.int .i64 x.1, .string (str x.2.1), .bool x.2.2] 63)) 3 encL (some ⟨w.heap.size, 0, none⟩) 1 [x] :=
  IsG.one (by simp) (fun j u hj => match j, hj with
    | 0, hj => by simp [encL] at hj; subst hj; simp [go_sem]
    | 1, hj => by simp [encL] at hj; subst hj; simp [go_sem]
    | 2, hj => by simp [encL] at hj; subst hj; simp [go_sem]
    | j + 3, hj => by simp [encL] at hj)
theorem below_any {S : Nat → Prop} {w W : World} (h : Below w.heap.size w W) : Mod S w W := (Mod.of_below (S := fun _ => False) h).mono fun _ _ h => h.elim
theorem append_zero_any {w : World} {v : Value} {l : List Li} (h : RG w 3 encL v l) (hi : Inf 27 63 3 32) (A : Option Addr) (c : Nat) (ty : TypeId) :
    (Builtin.append_ #[27, 27] ty #[v, .slice A 0 c]).run Try.prog w = .ok v w := by
  obtain ⟨i0, z, hi0, hz0, hz1, hz2, hz3⟩ := hi.info
  cases A with
  | none =>
    rcases h.row.is with ⟨rfl, hl⟩ | ⟨g, off, cap, rfl, _, hnc, _⟩
    · simp [Builtin.append_, run_underlying hi.under, sizeOf, typeInfo, hi0, Builtin.lenOf, Builtin.firstCells]
    · simp [Builtin.append_, run_underlying hi.under, sizeOf, typeInfo, hi0, Builtin.lenOf, Builtin.firstCells, hnc, storeCells]
  | some ad => exact append_zero h.row _ ty _ i0 hi.under hi0 ad c
theorem slice_cases {w : World} {A : Option Addr} {n c : Nat} {l : List Li} (h : RG w 3 encL (.slice A n c) l) : (A = none ∧ l = [] ∧ c = 0) ∨ ∃ g off, A = some ⟨g, off, none⟩ := by
  rcases h.row.is with ⟨e, hl⟩ | ⟨g, off, cap, e, _⟩
  · injection e with e1 e2 e3
    exact .inl ⟨e1, List.eq_nil_of_length_eq_zero hl, e3⟩
  · injection e with e1 e2 e3
    exact .inr ⟨g, off, e1⟩
def lnV (x : Li) : Value := .agg #[.int .i64 x.1, .string (str x.2.1), .bool x.2.2]
set_option maxRecDepth 100000 in
set_option maxHeartbeats 4000000 in
theorem XGet_any {w : World} {b : Nat} {v : Value} {l : List Li} (h : Rc w b v l) (k : Int) :
    Calls Try.prog 24 #[.pointer (some ⟨b, 0, none⟩), .int .i64 k] w fun e w' => e = .returned (.tuple #[.string (str (kvOf l k).1), .bool (look l k).isSome]) ∧ w = w' := by
  have H := Lib.hid h
  clear h
  by_cases hf : findI l k < 0
  · have HN : Hid (kvOf l k = ([], false) ∧ (look l k).isSome = false) := Lib.hid (by rw [kvOf, findI_none.1 hf]; exact ⟨rfl, rfl⟩)
    go_enter Try.func24, Try.ntmps24
    go_wp2_with fail
    refine (find_any H.out k).mono ?_
    rintro e w1 ⟨rfl, rfl⟩
    go_wp2
    go_ret2
    rw [HN.out.1, HN.out.2]
    exact ⟨rfl, rfl⟩
  · obtain ⟨i, u, h1, h2, h3, _⟩ := findI_some hf
    have HN : Hid (kvOf l k = u ∧ (look l k).isSome = true) := Lib.hid (by rw [kvOf, h3]; exact ⟨rfl, rfl⟩)
    have hc := H.out.cell
    obtain ⟨A, c, rfl⟩ := H.out.row.shape
    obtain ⟨hi, _, _⟩ := H.out.row.is encL_ok
    have hil : i < l.length := (List.getElem?_eq_some_iff.1 h2).1
    obtain ⟨g, off, rfl, hgl, hcs⟩ := hi.cells (by omega)
    have c1 := hcs i _ 1 _ h2 rfl
    have hsm := hi.small
    clear hcs hf h3
    go_enter Try.func24, Try.ntmps24
    go_wp2_with fail
    refine (find_any H.out k).mono ?_
    rw [h1]
    rintro e w1 ⟨rfl, rfl⟩
    go_wp2
    go_ret2
    rw [HN.out.1, HN.out.2]
    exact ⟨rfl, rfl⟩
set_option maxRecDepth 100000 in
set_option maxHeartbeats 8000000 in
theorem XSet_any {w : World} {b : Nat} {v : Value} {l : List Li} (h : Rc w b v l) (hr : Rise l) (x : Li) (hn : l.length ≤ 2000) :
    Calls Try.prog 28 #[.pointer (some ⟨b, 0, none⟩), .agg #[.int .i64 x.1, .string (str x.2.1), .bool x.2.2]] w fun e w' => e = .returned (.tuple #[]) ∧ ∃ v', Rc w' b v' (setL l x) ∧ RcTo w w' b v v' := by
  have H0 := Lib.hid h
  have HR := Lib.hid hr
  have hlt := h.lt
  obtain ⟨W, HW⟩ : ∃ W, Hid (w.alloc (.cells #[.int .i64 x.1, .string (str x.2.1), .bool x.2.2] 63) = W) := ⟨_, Lib.hid rfl⟩
  obtain ⟨p, Hp⟩ : ∃ p, Hid (w.heap.size = p) := ⟨_, Lib.hid rfl⟩
  have HB : Hid (Below w.heap.size w W) := Lib.hid (by rw [← HW.out]; exact balloc (Below.refl _ _) _)
  have H : Hid (Rc W b v l) := Lib.hid (h.below HB.out)
  have k0 : W.cell? ⟨p, 0, none⟩ = some (.int .i64 x.1) := by rw [← HW.out, ← Hp.out]; simp [go_sem]
  have k1 : W.cell? ⟨p, 1, none⟩ = some (.string (str x.2.1)) := by rw [← HW.out, ← Hp.out]; simp [go_sem]
  have k2 : W.cell? ⟨p, 2, none⟩ = some (.bool x.2.2) := by rw [← HW.out, ← Hp.out]; simp [go_sem]
  have hpl := lt_of_cell k0
  have hc := H.out.cell
  have hcf := H.out.fz
  have hbl := H.out.lt
  obtain ⟨A, c, rfl⟩ := h.row.shape
  obtain ⟨hi, hnc, hcm⟩ := H.out.row.is encL_ok
  have hsm := hi.small
  have Hi := Lib.hid hi
  have hbp : Hid (b ≠ p) := Lib.hid (by rw [← Hp.out]; omega)
  clear h hr hi
  by_cases hf : findI l x.1 < 0
  · have HN : Hid (look l x.1 = none) := Lib.hid (findI_none.1 hf)
    go_enter Try.func28, Try.ntmps28
    go_wp2_with fail
    rw [HW.out, Hp.out]
    refine (find_any H.out x.1).mono ?_
    rintro e w1 ⟨rfl, rfl⟩
    go_wp2_with fail
    go_loopw [5, 6] (fun vv i wr => ∃ j : Nat, j ≤ l.length ∧ i = .int .i64 j ∧ Hid (RG wr 3 encL vv (l.take j) ∧ (∀ y, blk vv = some y → W.heap.size ≤ y) ∧ Below W.heap.size W wr ∧ ∀ i y, i < j → l[i]? = some y → y.1 < x.1)) (fun _ i _ => l.length - (intOf i).toNat)
    case atStart => exact ⟨0, Nat.zero_le _, rfl, Lib.hid ⟨RG.nil _ _ _, (fun y e => by cases e), Below.refl _ _, fun i y hi => by omega⟩⟩
    case round =>
      obtain ⟨j, hj, rfl, HC⟩ := hrel
      obtain ⟨A5, c5, rfl⟩ := HC.out.1.shape
      have hl5 : (l.take j).length = j := by rw [List.length_take]; omega
      rw [hl5] at HC ⊢
      have h5 := HC.out.2.2.1
      have r0 := (h5.cell (p := ⟨b, 0, none⟩) hbl).trans hc
      have rf := (h5.frozen (p := ⟨b, 0, none⟩) hbl).trans hcf
      have m0 := (h5.cell (p := ⟨p, 0, none⟩) hpl).trans k0
      have m1 := (h5.cell (p := ⟨p, 1, none⟩) hpl).trans k1
      have m2 := (h5.cell (p := ⟨p, 2, none⟩) hpl).trans k2
      have hbl' := Nat.lt_of_lt_of_le hbl h5.size
      have hpl' := Nat.lt_of_lt_of_le hpl h5.size
      clear h5
      by_cases hgo : ∃ y, l[j]? = some y ∧ y.1 < x.1
      · obtain ⟨y, hy, hyx⟩ := hgo
        have hlt2 : j < l.length := (List.getElem?_eq_some_iff.1 hy).1
        obtain ⟨g, off, rfl, hgl, hcs⟩ := (Hi.out.below HC.out.2.2.1).cells (by omega)
        have d0 := hcs j _ 0 _ hy rfl
        have d1 := hcs j _ 1 _ hy rfl
        have d2 := hcs j _ 2 _ hy rfl
        rw [Nat.add_zero] at d0
        have Hy := Lib.hid hy
        have Hsn : Hid (l.take (j + 1) = l.take j ++ [y]) := Lib.hid (by
          obtain ⟨hjl, ej⟩ := List.getElem?_eq_some_iff.1 hy
          rw [List.take_succ_eq_append_getElem hjl, ej])
        have Hyx := Lib.hid hyx
        clear hcs hy
        go_wp2_with fail
        refine wp_region_mix (by kernel_rfl) (Cls (Abv wr)) ((0, 0) :: (1, 0) :: (2, 0) :: (3, 0) :: (4, 0) :: (5, 0) :: (6, 0) :: (7, 0) :: (8, 0) :: (9, 0) :: (10, 0) :: (11, 0) :: (12, 0) :: (13, 0) :: (14, 0) :: (15, 0) :: (16, 0) :: (17, 0) :: (18, 0) :: (19, 0) :: []) (by kernel_rfl) (cls (Below.refl _ _).drew) ?_
        have q0 : ∀ z : In (Abv wr), z.u.cell? ⟨b, 0, none⟩ = some (.slice (some ⟨g, off, none⟩) l.length c) := fun z => (z.is.cell (p := ⟨b, 0, none⟩) hbl').trans r0
        have q1 : ∀ z : In (Abv wr), z.u.cell? ⟨g, off + j * 3, none⟩ = some (.int .i64 y.1) := fun z => (z.is.cell (p := ⟨g, off + j * 3, none⟩) hgl).trans d0
        have q2 : ∀ z : In (Abv wr), z.u.cell? ⟨p, 0, none⟩ = some (.int .i64 x.1) := fun z => (z.is.cell (p := ⟨p, 0, none⟩) hpl').trans m0
        repeat (refine mix0 rfl (fun K hK => ?_); go_simp; refine hK _ ?_; clear hK K)
        refine mixEnd ?_
        clear q0 q1 q2
        obtain ⟨wd, Hwd⟩ : ∃ u, Hid (wr.drew = u) := ⟨_, Lib.hid rfl⟩
        have hbd : Below wr.heap.size wr wd := by rw [← Hwd.out]; exact (Below.refl _ _).drew
        have r0' : wd.cell? ⟨b, 0, none⟩ = some (.slice (some ⟨g, off, none⟩) l.length c) := by rw [← Hwd.out]; exact r0
        have d0' : wd.cell? ⟨g, off + j * 3, none⟩ = some (.int .i64 y.1) := by rw [← Hwd.out]; exact d0
        have d1' : wd.cell? ⟨g, off + j * 3 + 1, none⟩ = some (.string (str y.2.1)) := by rw [← Hwd.out]; exact d1
        have d2' : wd.cell? ⟨g, off + j * 3 + 2, none⟩ = some (.bool y.2.2) := by rw [← Hwd.out]; exact d2
        obtain ⟨U, HU⟩ : ∃ U, Hid (wd.alloc (.cells #[.int .i64 y.1, .string (str y.2.1), .bool y.2.2] 63) = U) := ⟨_, Lib.hid rfl⟩
        obtain ⟨s, Hs⟩ : ∃ s, Hid (wd.heap.size = s) := ⟨_, Lib.hid rfl⟩
        have hbU : Below wr.heap.size wr U := by rw [← HU.out]; exact balloc hbd _
        have hI : IsG U 3 encL (some ⟨s, 0, none⟩) 1 [y] := by rw [← HU.out, ← Hs.out]; exact lnOne wd y
        obtain ⟨v2, w2, hr2, r2, a2⟩ := appG lnInf encL_ok (HC.out.1.below hbU) (c := 1) hI (by rw [hl5]; omega) (by decide) 27
        have HR2 := Lib.hid hr2
        have N2 : Hid (RG w2 3 encL v2 (l.take (j + 1)) ∧ (∀ y, blk v2 = some y → W.heap.size ≤ y) ∧ Below W.heap.size W w2 ∧ ∀ i y, i < j + 1 → l[i]? = some y → y.1 < x.1) := Lib.hid (by
          have hB := HC.out.2.2.1.size
          refine ⟨by rw [Hsn.out]; exact r2, fun q e => ?_, ?_, fun i z hi hz => ?_⟩
          · rcases a2.blk with e2 | ⟨q2, e2, hq2⟩
            · exact HC.out.2.1 q (e2 ▸ e)
            · rw [e2] at e
              obtain rfl := Option.some.inj e
              have := hbU.size
              omega
          · exact a2.mod.below (HC.out.2.2.1.trans (hbU.mono hB)) (Nat.le_trans hB hbU.size) HC.out.2.1
          · by_cases e : i = j
            · subst e
              rw [Hy.out] at hz
              obtain rfl := Option.some.inj hz
              exact Hyx.out
            · exact HC.out.2.2.2 i z (by omega) hz)
        have hl6 : (l.take (j + 1)).length = j + 1 := by rw [List.length_take]; omega
        clear hbU hI hr2 r2 a2 hbd
        obtain ⟨A6, c6, rfl⟩ : ∃ A6 c6, v2 = .slice A6 (j + 1) c6 := by
          obtain ⟨A6, c6, e⟩ := N2.out.1.shape
          exact ⟨A6, c6, by rw [e, hl6]⟩
        rw [Hwd.out]
        clear r0 rf m0 m1 m2 d0 d1 d2 hl5 hl6
        go_wp2_with (first | (at_builtin; rw [HU.out, Hs.out]; refine wpList_append_run rfl (.tmp 40) (.tmp 48) 27 rfl (by exact HR2.out) ?_) | fail)
        go_roundw
        case rel => exact ⟨j + 1, by omega, by go_num, N2⟩
        case measure => simp [intOf]; omega
      · have HE : Hid (l.take j ++ [x] ++ l.drop j = setL l x) := Lib.hid (split_at HN.out j HC.out.2.2.2 (fun y hy hyx => hgo ⟨y, hy, hyx⟩) hj)
        by_cases hjn : j < l.length
        · obtain ⟨y, hy⟩ : ∃ y, l[j]? = some y := ⟨l[j], List.getElem?_eq_getElem hjn⟩
          have hyx : ¬ y.1 < x.1 := fun h => hgo ⟨y, hy, h⟩
          obtain ⟨g, off, rfl, hgl, hcs⟩ := (Hi.out.below HC.out.2.2.1).cells (by omega)
          have d0 := hcs j _ 0 _ hy rfl
          rw [Nat.add_zero] at d0
          clear hcs hy hgo
          go_wp2_with fail
          refine wp_region_mix (by kernel_rfl) (Cls (Abv wr)) ((0, 0) :: (1, 0) :: (2, 0) :: (3, 0) :: (4, 0) :: (5, 0) :: (6, 0) :: (7, 0) :: (8, 0) :: (9, 0) :: (10, 0) :: (11, 0) :: (12, 0) :: (13, 0) :: (14, 0) :: (15, 0) :: (16, 0) :: (17, 0) :: (18, 0) :: (19, 0) :: []) (by kernel_rfl) (cls (Below.refl _ _).drew) ?_
          have q0 : ∀ z : In (Abv wr), z.u.cell? ⟨b, 0, none⟩ = some (.slice (some ⟨g, off, none⟩) l.length c) := fun z => (z.is.cell (p := ⟨b, 0, none⟩) hbl').trans r0
          have q1 : ∀ z : In (Abv wr), z.u.cell? ⟨g, off + j * 3, none⟩ = some (.int .i64 y.1) := fun z => (z.is.cell (p := ⟨g, off + j * 3, none⟩) hgl).trans d0
          have q2 : ∀ z : In (Abv wr), z.u.cell? ⟨p, 0, none⟩ = some (.int .i64 x.1) := fun z => (z.is.cell (p := ⟨p, 0, none⟩) hpl').trans m0
          repeat (refine mix0 rfl (fun K hK => ?_); go_simp; refine hK _ ?_; clear hK K)
          refine mixEnd ?_
          clear q0 q1 q2 d0
          obtain ⟨wd, Hwd⟩ : ∃ u, Hid (wr.drew = u) := ⟨_, Lib.hid rfl⟩
          have hbd : Below wr.heap.size wr wd := by rw [← Hwd.out]; exact (Below.refl _ _).drew
          have m0' : wd.cell? ⟨p, 0, none⟩ = some (.int .i64 x.1) := by rw [← Hwd.out]; exact m0
          have m1' : wd.cell? ⟨p, 1, none⟩ = some (.string (str x.2.1)) := by rw [← Hwd.out]; exact m1
          have m2' : wd.cell? ⟨p, 2, none⟩ = some (.bool x.2.2) := by rw [← Hwd.out]; exact m2
          obtain ⟨U, HU⟩ : ∃ U, Hid (wd.alloc (.cells #[.int .i64 x.1, .string (str x.2.1), .bool x.2.2] 63) = U) := ⟨_, Lib.hid rfl⟩
          obtain ⟨s, Hs⟩ : ∃ s, Hid (wd.heap.size = s) := ⟨_, Lib.hid rfl⟩
          have hbU : Below wr.heap.size wr U := by rw [← HU.out]; exact balloc hbd _
          have hI : IsG U 3 encL (some ⟨s, 0, none⟩) 1 [x] := by rw [← HU.out, ← Hs.out]; exact lnOne wd x
          obtain ⟨v2, w2, hr2, r2, a2⟩ := appG lnInf encL_ok (HC.out.1.below hbU) (c := 1) hI (by rw [hl5]; omega) (by decide) 27
          have HR2 := Lib.hid hr2
          have hBW : Below W.heap.size W w2 := a2.mod.below (HC.out.2.2.1.trans (hbU.mono HC.out.2.2.1.size)) (Nat.le_trans HC.out.2.2.1.size hbU.size) HC.out.2.1
          have N2 : Hid (RG w2 3 encL v2 (l.take j ++ [x]) ∧ (∀ y, blk v2 = some y → W.heap.size ≤ y) ∧ Below W.heap.size W w2) := Lib.hid (by
            refine ⟨r2, fun q e => ?_, hBW⟩
            rcases a2.blk with e2 | ⟨q2, e2, hq2⟩
            · exact HC.out.2.1 q (e2 ▸ e)
            · rw [e2] at e
              obtain rfl := Option.some.inj e
              have := hbU.size
              have := HC.out.2.2.1.size
              omega)
          have hl6 : (l.take j ++ [x]).length = j + 1 := by rw [List.length_append, hl5]; rfl
          have r2c := (hBW.cell (p := ⟨b, 0, none⟩) hbl).trans hc
          have r2f := (hBW.frozen (p := ⟨b, 0, none⟩) hbl).trans hcf
          clear hbU hI hr2 r2 a2 hbd hBW
          obtain ⟨A6, c6, rfl⟩ : ∃ A6 c6, v2 = .slice A6 (j + 1) c6 := by
            obtain ⟨A6, c6, e⟩ := N2.out.1.shape
            exact ⟨A6, c6, by rw [e, hl6]⟩
          rw [Hwd.out]
          clear r0 rf m0 m1 m2 hl5 hl6
          have hLen := (N2.out.1.shape)
          have hdrop : IsG w2 3 encL (some ⟨g, off + j * 3, none⟩) (l.length - j) (l.drop j) := ((Hi.out.below N2.out.2.2)).drop (by omega) _ (fun _ => rfl)
          obtain ⟨v3, w3, hr3, r3, a3⟩ := appG lnInf encL_ok N2.out.1 (c := c - j) hdrop (by rw [List.length_append, List.length_take]; simp; omega) (by decide) 27
          obtain ⟨A7, c7, e7⟩ := r3.shape
          obtain ⟨n7, Hn7⟩ : ∃ n7, Hid ((l.take j ++ [x] ++ l.drop j).length = n7) := ⟨_, Lib.hid rfl⟩
          rw [Hn7.out] at e7
          subst e7
          have HR3 := Lib.hid hr3
          clear hLen hdrop
          have N3 : Hid (RG w3 3 encL (.slice A7 n7 c7) (setL l x) ∧ (∀ y, blk (.slice A7 n7 c7) = some y → W.heap.size ≤ y) ∧ Below W.heap.size W w3) := Lib.hid (by
            refine ⟨by rw [← HE.out]; exact r3, fun q e => ?_, a3.mod.below N2.out.2.2 N2.out.2.2.size N2.out.2.1⟩
            rcases a3.blk with e2 | ⟨q2, e2, hq2⟩
            · exact N2.out.2.1 q (e2 ▸ e)
            · rw [e2] at e
              obtain rfl := Option.some.inj e
              have := N2.out.2.2.size
              omega)
          have r3c := (N3.out.2.2.cell (p := ⟨b, 0, none⟩) hbl).trans hc
          have r3f := (N3.out.2.2.frozen (p := ⟨b, 0, none⟩) hbl).trans hcf
          clear hr3 r3 a3
          have hjc : j < c := by omega
          go_wp2_with (first | (at_builtin; rw [HU.out, Hs.out]; refine wpList_append_run rfl (.tmp 52) (.tmp 54) 27 rfl (by exact HR2.out) ?_) | (at_builtin; refine wpList_append_run rfl (.tmp 57) (.tmp 63) 27 rfl (by exact HR3.out) ?_) | fail)
          have hnb : ∀ y, blk (.slice A7 n7 c7) = some y → y ≠ b := fun y hy e => by have := N3.out.2.1 y hy; omega
          refine bodyPost_end (results_none rfl _ _ _) rfl ⟨rfl, (.slice A7 n7 c7), ⟨set_same r3c, set_frozen r3f, N3.out.1.later ((Mod.refl (· = b) w3).set1 _) (fun y hy e => hnb y hy e), hnb⟩, ?_, ?_⟩
          · exact ((below_any (HB.out.trans (N3.out.2.2.mono HB.out.size))).trans (((Mod.refl (· = b) w3).set1 _).mono fun _ _ e => .inl e))
          · exact fun y hy => .inr (Nat.le_trans HB.out.size (N3.out.2.1 y hy))
        · have hjl : Hid (j = l.length) := Lib.hid (by omega)
          clear hgo
          go_wp2_with fail
          refine wp_region_mix (by kernel_rfl) (Cls (Abv wr)) ((0, 0) :: (1, 0) :: (2, 0) :: (3, 0) :: (4, 0) :: (5, 0) :: (6, 0) :: (7, 0) :: (8, 0) :: (9, 0) :: (10, 0) :: (11, 0) :: (12, 0) :: (13, 0) :: (14, 0) :: (15, 0) :: (16, 0) :: (17, 0) :: (18, 0) :: (19, 0) :: []) (by kernel_rfl) (cls (Below.refl _ _).drew) ?_
          have q0 : ∀ z : In (Abv wr), z.u.cell? ⟨b, 0, none⟩ = some (.slice A l.length c) := fun z => (z.is.cell (p := ⟨b, 0, none⟩) hbl').trans r0
          repeat (refine mix0 rfl (fun K hK => ?_); go_simp; refine hK _ ?_; clear hK K)
          refine mixEnd ?_
          clear q0
          obtain ⟨wd, Hwd⟩ : ∃ u, Hid (wr.drew = u) := ⟨_, Lib.hid rfl⟩
          have hbd : Below wr.heap.size wr wd := by rw [← Hwd.out]; exact (Below.refl _ _).drew
          have m0' : wd.cell? ⟨p, 0, none⟩ = some (.int .i64 x.1) := by rw [← Hwd.out]; exact m0
          have m1' : wd.cell? ⟨p, 1, none⟩ = some (.string (str x.2.1)) := by rw [← Hwd.out]; exact m1
          have m2' : wd.cell? ⟨p, 2, none⟩ = some (.bool x.2.2) := by rw [← Hwd.out]; exact m2
          obtain ⟨U, HU⟩ : ∃ U, Hid (wd.alloc (.cells #[.int .i64 x.1, .string (str x.2.1), .bool x.2.2] 63) = U) := ⟨_, Lib.hid rfl⟩
          obtain ⟨s, Hs⟩ : ∃ s, Hid (wd.heap.size = s) := ⟨_, Lib.hid rfl⟩
          have hbU : Below wr.heap.size wr U := by rw [← HU.out]; exact balloc hbd _
          have hI : IsG U 3 encL (some ⟨s, 0, none⟩) 1 [x] := by rw [← HU.out, ← Hs.out]; exact lnOne wd x
          obtain ⟨v2, w2, hr2, r2, a2⟩ := appG lnInf encL_ok (HC.out.1.below hbU) (c := 1) hI (by rw [hl5]; omega) (by decide) 27
          have HR2 := Lib.hid hr2
          have hBW : Below W.heap.size W w2 := a2.mod.below (HC.out.2.2.1.trans (hbU.mono HC.out.2.2.1.size)) (Nat.le_trans HC.out.2.2.1.size hbU.size) HC.out.2.1
          have N2 : Hid (RG w2 3 encL v2 (l.take j ++ [x]) ∧ (∀ y, blk v2 = some y → W.heap.size ≤ y) ∧ Below W.heap.size W w2) := Lib.hid (by
            refine ⟨r2, fun q e => ?_, hBW⟩
            rcases a2.blk with e2 | ⟨q2, e2, hq2⟩
            · exact HC.out.2.1 q (e2 ▸ e)
            · rw [e2] at e
              obtain rfl := Option.some.inj e
              have := hbU.size
              have := HC.out.2.2.1.size
              omega)
          have hl6 : (l.take j ++ [x]).length = j + 1 := by rw [List.length_append, hl5]; rfl
          have r2c := (hBW.cell (p := ⟨b, 0, none⟩) hbl).trans hc
          have r2f := (hBW.frozen (p := ⟨b, 0, none⟩) hbl).trans hcf
          clear hbU hI hr2 r2 a2 hbd hBW
          obtain ⟨A6, c6, rfl⟩ : ∃ A6 c6, v2 = .slice A6 (j + 1) c6 := by
            obtain ⟨A6, c6, e⟩ := N2.out.1.shape
            exact ⟨A6, c6, by rw [e, hl6]⟩
          rw [Hwd.out]
          clear r0 rf m0 m1 m2 hl5 hl6
          obtain ⟨hr3, r3⟩ : (∀ A' c', (Builtin.append_ #[27, 27] 27 #[.slice A6 (j + 1) c6, .slice A' (l.length - j) c']).run Try.prog w2 = .ok (.slice A6 (j + 1) c6) w2) ∧ RG w2 3 encL (.slice A6 (j + 1) c6) (l.take j ++ [x] ++ l.drop j) := by
            have e1 : l.length - j = 0 := by have := hjl.out; omega
            have e2 : l.drop j = [] := by rw [List.drop_eq_nil_iff]; have := hjl.out; omega
            rw [e1, e2, List.append_nil]
            exact ⟨fun A' c' => append_zero_any N2.out.1 lnInf A' c' _, N2.out.1⟩
          have HR3 := Lib.hid hr3
          have a3 : AppG w2 w2 (.slice A6 (j + 1) c6) (.slice A6 (j + 1) c6) := ⟨Mod.refl _ _, .inl rfl⟩
          have N3 : Hid (RG w2 3 encL (.slice A6 (j + 1) c6) (setL l x) ∧ (∀ y, blk (.slice A6 (j + 1) c6) = some y → W.heap.size ≤ y) ∧ Below W.heap.size W w2) := Lib.hid (by
            refine ⟨by rw [← HE.out]; exact r3, fun q e => ?_, a3.mod.below N2.out.2.2 N2.out.2.2.size N2.out.2.1⟩
            rcases a3.blk with e2 | ⟨q2, e2, hq2⟩
            · exact N2.out.2.1 q (e2 ▸ e)
            · rw [e2] at e
              obtain rfl := Option.some.inj e
              have := N2.out.2.2.size
              omega)
          have r3c := (N3.out.2.2.cell (p := ⟨b, 0, none⟩) hbl).trans hc
          have r3f := (N3.out.2.2.frozen (p := ⟨b, 0, none⟩) hbl).trans hcf
          clear r3 hr3 a3
          rcases slice_cases H.out.row with ⟨rfl, hl0, rfl⟩ | ⟨g, off, rfl⟩
          · have hj0 : j = 0 := by have := hjl.out; rw [this, hl0]; rfl
            subst hl0 hj0
            go_wp2_with (first | (at_builtin; rw [HU.out, Hs.out]; refine wpList_append_run rfl (.tmp 52) (.tmp 54) 27 rfl (by exact HR2.out) ?_) | (at_builtin; refine wpList_append_run rfl (.tmp 57) (.tmp 63) 27 rfl (by exact HR3.out _ _) ?_) | fail)
            have hnb : ∀ y, blk (.slice A6 (0 + 1) c6) = some y → y ≠ b := fun y hy e => by have := N3.out.2.1 y hy; omega
            refine bodyPost_end (results_none rfl _ _ _) rfl ⟨rfl, (.slice A6 (0 + 1) c6), ⟨set_same r3c, set_frozen r3f, N3.out.1.later ((Mod.refl (· = b) w2).set1 _) (fun y hy e => hnb y hy e), hnb⟩, ?_, ?_⟩
            · exact ((below_any (HB.out.trans (N3.out.2.2.mono HB.out.size))).trans (((Mod.refl (· = b) w2).set1 _).mono fun _ _ e => .inl e))
            · exact fun y hy => .inr (Nat.le_trans HB.out.size (N3.out.2.1 y hy))
          · by_cases hjc : j < c
            · go_wp2_with (first | (at_builtin; rw [HU.out, Hs.out]; refine wpList_append_run rfl (.tmp 52) (.tmp 54) 27 rfl (by exact HR2.out) ?_) | (at_builtin; refine wpList_append_run rfl (.tmp 57) (.tmp 63) 27 rfl (by exact HR3.out _ _) ?_) | fail)
              have hnb : ∀ y, blk (.slice A6 (j + 1) c6) = some y → y ≠ b := fun y hy e => by have := N3.out.2.1 y hy; omega
              refine bodyPost_end (results_none rfl _ _ _) rfl ⟨rfl, (.slice A6 (j + 1) c6), ⟨set_same r3c, set_frozen r3f, N3.out.1.later ((Mod.refl (· = b) w2).set1 _) (fun y hy e => hnb y hy e), hnb⟩, ?_, ?_⟩
              · exact ((below_any (HB.out.trans (N3.out.2.2.mono HB.out.size))).trans (((Mod.refl (· = b) w2).set1 _).mono fun _ _ e => .inl e))
              · exact fun y hy => .inr (Nat.le_trans HB.out.size (N3.out.2.1 y hy))
            · go_wp2_with (first | (at_builtin; rw [HU.out, Hs.out]; refine wpList_append_run rfl (.tmp 52) (.tmp 54) 27 rfl (by exact HR2.out) ?_) | (at_builtin; refine wpList_append_run rfl (.tmp 57) (.tmp 63) 27 rfl (by exact HR3.out _ _) ?_) | fail)
              have hnb : ∀ y, blk (.slice A6 (j + 1) c6) = some y → y ≠ b := fun y hy e => by have := N3.out.2.1 y hy; omega
              refine bodyPost_end (results_none rfl _ _ _) rfl ⟨rfl, (.slice A6 (j + 1) c6), ⟨set_same r3c, set_frozen r3f, N3.out.1.later ((Mod.refl (· = b) w2).set1 _) (fun y hy e => hnb y hy e), hnb⟩, ?_, ?_⟩
              · exact ((below_any (HB.out.trans (N3.out.2.2.mono HB.out.size))).trans (((Mod.refl (· = b) w2).set1 _).mono fun _ _ e => .inl e))
              · exact fun y hy => .inr (Nat.le_trans HB.out.size (N3.out.2.1 y hy))
  · obtain ⟨i, u, h1, h2, h3, _⟩ := findI_some hf
    have hil : i < l.length := (List.getElem?_eq_some_iff.1 h2).1
    obtain ⟨g, off, rfl, hgl, hcs⟩ := Hi.out.cells (by omega)
    have d0 := hcs i _ 0 _ h2 rfl
    have d1 := hcs i _ 1 _ h2 rfl
    have d2 := hcs i _ 2 _ h2 rfl
    rw [Nat.add_zero] at d0
    have e0 := (H.out.row.cell encL_ok h2 (j := 0) rfl).2
    have e1 := (H.out.row.cell encL_ok h2 (j := 1) rfl).2
    have e2 := (H.out.row.cell encL_ok h2 (j := 2) rfl).2
    rw [Nat.add_zero] at e0
    have hset : l.set i x = setL l x := by
      have := set_at HR.out h2 x.2
      exact this
    have HS := Lib.hid hset
    have hne := H.out.ne g rfl
    have H2 := Lib.hid h2
    clear hcs hf h3 hset h2
    go_enter Try.func28, Try.ntmps28
    go_wp2_with fail
    rw [HW.out, Hp.out]
    refine (find_any H.out x.1).mono ?_
    rw [h1]
    rintro e w1 ⟨rfl, rfl⟩
    go_wp2_with fail
    refine wp_region_mix (by kernel_rfl) (Cls (Abv W)) [(0, 0), (1, 0), (2, 0), (3, 0), (4, 0), (5, 0), (6, 0), (7, 2)] (by kernel_rfl) (cls (Below.refl _ _).drew) ?_
    have q0 : ∀ y : In (Abv W), y.u.cell? ⟨b, 0, none⟩ = some (.slice (some ⟨g, off, none⟩) l.length c) := fun y => (y.is.cell (p := ⟨b, 0, none⟩) hbl).trans hc
    have q1 : ∀ y : In (Abv W), y.u.cell? ⟨p, 0, none⟩ = some (.int .i64 x.1) := fun y => (y.is.cell (p := ⟨p, 0, none⟩) hpl).trans k0
    have q2 : ∀ y : In (Abv W), y.u.cell? ⟨p, 1, none⟩ = some (.string (str x.2.1)) := fun y => (y.is.cell (p := ⟨p, 1, none⟩) hpl).trans k1
    have q3 : ∀ y : In (Abv W), y.u.cell? ⟨p, 2, none⟩ = some (.bool x.2.2) := fun y => (y.is.cell (p := ⟨p, 2, none⟩) hpl).trans k2
    repeat (refine mix0 rfl (fun K hK => ?_); go_simp; refine hK _ ?_; clear hK K)
    refine mix2 rfl (fun K hK => ?_)
    go_simp
    refine hK _ _ ?_
    clear hK K
    refine mixEnd ?_
    clear q0 q1 q2 q3
    go_wp2
    refine bodyPost_ret (results_none rfl _ _ _) rfl ⟨rfl, .slice (some ⟨g, off, none⟩) l.length c, ?_, ?_⟩
    · have hS : RG (W.setCells g (off + i * 3) (encL x)) 3 encL (.slice (some ⟨g, off, none⟩) l.length c) (l.set i x) := RG.set encL_ok H.out.row hil x
      rw [HS.out] at hS
      have hM := setCells_mod g (encL x) (off + i * 3) W
      have hRc : Rc (W.setCells g (off + i * 3) (encL x)) b (.slice (some ⟨g, off, none⟩) l.length c) (setL l x) :=
        ⟨(hM.cell (p := ⟨b, 0, none⟩) hbl (fun e => hne e.symm)).trans hc, (hM.frozen (p := ⟨b, 0, none⟩) hbl (fun e => hne e.symm)).trans hcf, hS, H.out.ne⟩
      exact hRc.below (Below.refl _ _).drew
    · have hM := setCells_mod g (encL x) (off + i * 3) W
      exact (RcTo.after HB.out ⟨hM.mono (fun _ _ e => .inr (by rw [e]; rfl)), fun _ e => .inl e⟩).step (Below.refl _ _).drew
end Go.Proofs.Ytocnpjmhkgnomaa
