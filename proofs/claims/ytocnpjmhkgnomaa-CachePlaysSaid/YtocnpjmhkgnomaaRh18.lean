/- What is put into the document's cache, loaded, told clean, dropped, and told of it as dirty, at this translation. -/
import Derived.Test.YtocnpjmhkgnomaaRg18
import Derived.Test.YtocnpjmhkgnomaaCk18
namespace Go.Proofs.Ytocnpjmhkgnomaa
open Go.RowKit Go.MapKept Go.Sort

set_option maxRecDepth 100000 in
set_option maxHeartbeats 2000000 in
theorem XLoad_any {w : World} {b : Nat} {v : Value} {l : List Li} (h : Rc w b v l) (hr : Rise l) (k : Int) (s : List UInt8) (hn : l.length ≤ 2000) :
    Calls Try.prog 12 #[.pointer (some ⟨b, 0, none⟩), .int .i64 k, .string (str s)] w fun e w' => e = .returned (.bool (look l k).isNone) ∧ ∃ v', Rc w' b v' (loadL l k s) ∧ RcTo w w' b v v' := by
  have H := Lib.hid h
  have HR := Lib.hid hr
  clear h hr
  by_cases hf : findI l k < 0
  · have HN : Hid (look l k = none) := Lib.hid (findI_none.1 hf)
    go_enter Try.func12, Try.ntmps12
    go_wp2_with fail
    refine (find_any H.out k).mono ?_
    rintro e w1 ⟨rfl, rfl⟩
    go_wp2_with fail
    refine (XSet_any H.out HR.out (k, s, false) hn).mono ?_
    rintro e w2 ⟨rfl, v2, h2, t2⟩
    have H2 := Lib.hid (And.intro h2 t2)
    clear h2 t2
    go_wp2
    go_ret
    refine ⟨by rw [HN.out]; rfl, v2, ?_, H2.out.2⟩
    rw [loadL, if_pos HN.out]
    exact H2.out.1
  · obtain ⟨i, u, h1, h2, h3, _⟩ := findI_some hf
    have HN : Hid (look l k = some u) := Lib.hid h3
    clear hf h2 h3
    go_enter Try.func12, Try.ntmps12
    go_wp2_with fail
    refine (find_any H.out k).mono ?_
    rw [h1]
    rintro e w1 ⟨rfl, rfl⟩
    go_wp2
    go_ret
    refine ⟨by rw [HN.out]; rfl, v, ?_, RcTo.refl _ _ _⟩
    rw [loadL, if_neg (by rw [HN.out]; simp)]
    exact H.out
/-- A list of changes lies apart from the document's cache. -/
def AsideR (A : Option Addr) (n b : Nat) (v : Value) : Prop := ∀ g off, A = some ⟨g, off, none⟩ → 0 < n → g ≠ b ∧ blk v ≠ some g
theorem AsideR.to {w w' : World} {A : Option Addr} {n b : Nat} {v v' : Value} {l : List Ch} (h : AsideR A n b v) (k : RcTo w w' b v v') (hg : IsG w 2 encC A n l) : AsideR A n b v' := by
  intro g off e h0
  obtain ⟨h1, h2⟩ := h g off e h0
  refine ⟨h1, fun e2 => ?_⟩
  obtain ⟨g', off', e3, hlt, _⟩ := hg.cells h0
  rw [e] at e3
  injection e3 with e3
  injection e3 with e3
  exact k.ne (q := g) (fun x hx e4 => h2 (e4 ▸ hx)) (by omega) g e2 rfl
theorem IsG.toR {w w' : World} {A : Option Addr} {n b : Nat} {v v' : Value} {l : List Ch} (hg : IsG w 2 encC A n l) (h : AsideR A n b v) (k : RcTo w w' b v v') : IsG w' 2 encC A n l :=
  hg.later k.mod fun g off e h0 hs => hs.elim (h g off e h0).1 (h g off e h0).2
set_option maxRecDepth 100000 in
set_option maxHeartbeats 4000000 in
theorem XPut_any {w : World} {b : Nat} {v : Value} {l : List Li} (h : Rc w b v l) (hr : Rise l) (A : Option Addr) (n c : Nat) (cs : List Ch) (hg : IsG w 2 encC A n cs) (ha : AsideR A n b v) (hn : l.length + n ≤ 2000) :
    Calls Try.prog 19 #[.pointer (some ⟨b, 0, none⟩), .slice A n c] w fun e w' => e = .returned (.tuple #[]) ∧ ∃ v', Rc w' b v' (putL l cs) ∧ RcTo w w' b v v' := by
  have H := Lib.hid h
  have HR := Lib.hid hr
  have HG := Lib.hid hg
  have HA := Lib.hid ha
  have Hl := Lib.hid hg.length
  have hsm := hg.small
  clear h hg ha hr
  go_enter Try.func19, Try.ntmps19
  go_wp2_with fail
  go_loopw [4] (fun i wr => ∃ (j : Nat) (v' : Value), j ≤ n ∧ i = .int .i64 j ∧ Hid (Rc wr b v' (putL l (cs.take j)) ∧ RcTo w wr b v v')) (fun i _ => n - (intOf i).toNat)
  case atStart => exact ⟨0, v, Nat.zero_le _, rfl, Lib.hid ⟨H.out, RcTo.refl _ _ _⟩⟩
  case round =>
    obtain ⟨j, v', hj, rfl, HC⟩ := hrel
    by_cases hlt : j < n
    · obtain ⟨x, Hx⟩ : ∃ x, Hid (cs[j]? = some x) := ⟨cs[j]'(by have := Hl.out; omega), Lib.hid (List.getElem?_eq_getElem _)⟩
      have hG := HG.out.toR HA.out HC.out.2
      obtain ⟨g, off, rfl, hgl, hc⟩ := hG.cells (by omega)
      have c0 := hc j x 0 _ Hx.out rfl
      have c1 := hc j x 1 _ Hx.out rfl
      rw [Nat.add_zero] at c0
      have Hsn : Hid (cs.take (j + 1) = cs.take j ++ [x]) := Lib.hid (by
        obtain ⟨hjl, ej⟩ := List.getElem?_eq_some_iff.1 Hx.out
        rw [List.take_succ_eq_append_getElem hjl, ej])
      have hlen := putL_length l (cs.take j)
      rw [List.length_take] at hlen
      clear hG hc
      go_wp2_with fail
      refine wp_region_mix (by kernel_rfl) (Cls (Abv wr)) [(0, 0), (1, 0), (2, 0), (3, 0), (4, 0), (5, 0), (6, 0), (7, 0), (8, 0), (9, 0), (10, 0), (11, 0), (12, 2)] (by kernel_rfl) (cls (Below.refl _ _).drew) ?_
      have q0 : ∀ z : In (Abv wr), z.u.cell? ⟨g, off + j * 2, none⟩ = some (.int .i64 x.1) := fun z => (z.is.cell (p := ⟨g, off + j * 2, none⟩) hgl).trans c0
      have q1 : ∀ z : In (Abv wr), z.u.cell? ⟨g, off + j * 2 + 1, none⟩ = some (.string (str x.2)) := fun z => (z.is.cell (p := ⟨g, off + j * 2 + 1, none⟩) hgl).trans c1
      repeat (refine mix0 rfl (fun K hK => ?_); go_simp; refine hK _ ?_; clear hK K)
      refine mix2 rfl (fun K hK => ?_)
      go_simp
      refine (XSet_any (HC.out.1.below (Below.refl _ _).drew) (HR.out.put _) (x.1, x.2, true) (by omega)).mono ?_
      rintro e w2 ⟨rfl, v2, h2, t2⟩
      have HC2 : Hid (Rc w2 b v2 (putL l (cs.take (j + 1))) ∧ RcTo w w2 b v v2) := Lib.hid ⟨by rw [Hsn.out, putL_snoc]; exact h2, (HC.out.2.step (Below.refl _ _).drew).trans t2⟩
      refine ⟨_, rfl, hK _ _ ?_⟩
      clear hK K q0 q1 c0 c1 hlen h2 t2
      refine mixEnd ?_
      go_wp2
      go_roundw
      case rel => exact ⟨j + 1, v2, by omega, by go_num, HC2⟩
      case measure => simp [intOf]; omega
    · obtain rfl : j = n := by omega
      go_wp2
      have e : cs.take j = cs := List.take_of_length_le (by have := Hl.out; omega)
      have hC := HC.out
      rw [e] at hC
      exact bodyPost_end (results_none rfl _ _ _) rfl ⟨rfl, v', hC.1, hC.2⟩
theorem take_snoc_of {α : Type} {l : List α} {j : Nat} {y : α} (h : l[j]? = some y) : l.take (j + 1) = l.take j ++ [y] := by
  obtain ⟨hjl, ej⟩ := List.getElem?_eq_some_iff.1 h
  rw [List.take_succ_eq_append_getElem hjl, ej]
theorem dirtyL_snoc (t : List Li) (y : Li) (a b : Int) : dirtyL (t ++ [y]) a b = if inR a b y.1 && y.2.2 then dirtyL t a b ++ [(y.1, y.2.1)] else dirtyL t a b := by
  unfold dirtyL
  rw [List.filter_append, List.map_append]
  cases h : (inR a b y.1 && y.2.2) <;> simp [h]
theorem dropL_snoc (t : List Li) (y : Li) (a b : Int) : dropL (t ++ [y]) a b = if inR a b y.1 then dropL t a b else dropL t a b ++ [y] := by
  unfold dropL
  rw [List.filter_append]
  cases h : inR a b y.1 <;> simp [h]
/-- What of the document's cache is read in a round. -/
def Thr (b g o : Nat) (v : Value) (s : Int) (t : List UInt8) (u : World) : Prop := u.cell? ⟨b, 0, none⟩ = some v ∧ u.cell? ⟨g, o, none⟩ = some (.int .i64 s) ∧ u.cell? ⟨g, o + 1, none⟩ = some (.string (str t))
theorem thr_in {b g o : Nat} {v : Value} {s : Int} {t : List UInt8} {u : World} (h : Thr b g o v s t u) : Nonempty (In (Thr b g o v s t)) := ⟨⟨u, h⟩⟩
set_option maxRecDepth 100000 in
set_option maxHeartbeats 8000000 in
theorem XDirty_any {w : World} {b : Nat} {v : Value} {l : List Li} (h : Rc w b v l) (x y : Int) (hn : l.length ≤ 2000) :
    Calls Try.prog 13 #[.pointer (some ⟨b, 0, none⟩), .int .i64 x, .int .i64 y] w fun e w' => ∃ A n c, e = .returned (.slice A n c) ∧ RG w' 2 encC (.slice A n c) (dirtyL l x y) ∧ (∀ g, blk (.slice A n c) = some g → w.heap.size ≤ g) ∧ Below w.heap.size w w' := by
  have H := Lib.hid h
  have hc := h.cell
  have hbl := h.lt
  obtain ⟨A, c, rfl⟩ := h.row.shape
  obtain ⟨hi, _, _⟩ := h.row.is encL_ok
  have hsm := hi.small
  have Hi := Lib.hid hi
  clear h hi
  go_enter Try.func13, Try.ntmps13
  go_wp2_with fail
  go_loopw [7, 8] (fun vv i wr => ∃ j : Nat, j ≤ l.length ∧ i = .int .i64 j ∧ Hid (RG wr 2 encC vv (dirtyL (l.take j) x y) ∧ (∀ g, blk vv = some g → w.heap.size ≤ g) ∧ Below w.heap.size w wr)) (fun _ i _ => l.length - (intOf i).toNat)
  case atStart => exact ⟨0, Nat.zero_le _, rfl, Lib.hid ⟨RG.nil _ _ _, (fun g e => by cases e), Below.refl _ _⟩⟩
  case round =>
    obtain ⟨j, hj, rfl, HC⟩ := hrel
    obtain ⟨A5, c5, rfl⟩ := HC.out.1.shape
    have hdl : (dirtyL (l.take j) x y).length ≤ j := by
      rw [dirtyL, List.length_map]
      refine Nat.le_trans (List.length_filter_le _ _) ?_
      rw [List.length_take]; omega
    obtain ⟨dn, Hdn⟩ : ∃ dn, Hid ((dirtyL (l.take j) x y).length = dn) := ⟨_, Lib.hid rfl⟩
    rw [Hdn.out] at hdl HC ⊢
    have r0 := (HC.out.2.2.cell (p := ⟨b, 0, none⟩) hbl).trans hc
    by_cases hlt : j < l.length
    · obtain ⟨z, Hz⟩ : ∃ z, Hid (l[j]? = some z) := ⟨l[j], Lib.hid (List.getElem?_eq_getElem hlt)⟩
      obtain ⟨g, off, rfl, hgl, hcs⟩ := (Hi.out.below HC.out.2.2).cells (by omega)
      have d0 := hcs j _ 0 _ Hz.out rfl
      have d1 := hcs j _ 1 _ Hz.out rfl
      have d2 := hcs j _ 2 _ Hz.out rfl
      rw [Nat.add_zero] at d0
      have Hst := Lib.hid (dirtyL_snoc (l.take j) z x y)
      rw [← take_snoc_of Hz.out] at Hst
      have hgw : Hid (g < w.heap.size) := Lib.hid (by
        obtain ⟨g', off', e, h', _⟩ := Hi.out.cells (by omega)
        injection e with e
        injection e with e
        omega)
      clear hcs
      by_cases hd : inR x y z.1 = true ∧ z.2.2 = true
      · have h1 : x ≤ z.1 := by have := hd.1; simp [inR] at this; exact this.1
        have h2 : z.1 < y := by have := hd.1; simp [inR] at this; exact this.2
        have HE : Hid (dirtyL (l.take (j + 1)) x y = dirtyL (l.take j) x y ++ [(z.1, z.2.1)]) := Lib.hid (by rw [Hst.out, hd.1, hd.2]; rfl)
        rw [hd.2] at d2
        clear hd
        go_wp2_with fail
        have hT : Thr b g (off + j * 3) (.slice (some ⟨g, off, none⟩) l.length c) z.1 z.2.1 wr := ⟨r0, d0, d1⟩
        have hTd : Thr b g (off + j * 3) (.slice (some ⟨g, off, none⟩) l.length c) z.1 z.2.1 wr.drew := ⟨r0, d0, d1⟩
        haveI := thr_in hT
        refine wp_region_mix (by kernel_rfl) (Cls (Thr b g (off + j * 3) (.slice (some ⟨g, off, none⟩) l.length c) z.1 z.2.1)) ((0, 0) :: (1, 0) :: (2, 0) :: (3, 0) :: (4, 0) :: (5, 0) :: (6, 0) :: (7, 0) :: (8, 0) :: (9, 0) :: (10, 0) :: (11, 0) :: (12, 0) :: (13, 0) :: (14, 0) :: (15, 0) :: (16, 0) :: (17, 0) :: (18, 1) :: (19, 1) :: (20, 0) :: []) (by kernel_rfl) (cls hTd) ?_
        have q0 : ∀ u : In (Thr b g (off + j * 3) (.slice (some ⟨g, off, none⟩) l.length c) z.1 z.2.1), u.u.cell? ⟨b, 0, none⟩ = some (.slice (some ⟨g, off, none⟩) l.length c) := fun u => u.is.1
        have q1 : ∀ u : In (Thr b g (off + j * 3) (.slice (some ⟨g, off, none⟩) l.length c) z.1 z.2.1), u.u.cell? ⟨g, off + j * 3, none⟩ = some (.int .i64 z.1) := fun u => u.is.2.1
        have q2 : ∀ u : In (Thr b g (off + j * 3) (.slice (some ⟨g, off, none⟩) l.length c) z.1 z.2.1), u.u.cell? ⟨g, off + j * 3 + 1, none⟩ = some (.string (str z.2.1)) := fun u => u.is.2.2
        repeat (refine mix0 rfl (fun K hK => ?_); go_simp; refine hK _ ?_; clear hK K)
        obtain ⟨U, HU⟩ : ∃ U, Hid ((wr.alloc (.cells #[.int .i64 z.1, .string (str z.2.1)] 36)).drew = U) := ⟨_, Lib.hid rfl⟩
        obtain ⟨s, Hs⟩ : ∃ s, Hid (wr.heap.size = s) := ⟨_, Lib.hid rfl⟩
        have hbU : Below wr.heap.size wr U := by rw [← HU.out]; exact (balloc (Below.refl _ _) _).drew
        have hI : IsG U 2 encC (some ⟨s, 0, none⟩) 1 [(z.1, z.2.1)] := by rw [← HU.out, ← Hs.out]; exact (chOne wr (z.1, z.2.1)).below (Below.refl _ _).drew
        have hTU : Thr b g (off + j * 3) (.slice (some ⟨g, off, none⟩) l.length c) z.1 z.2.1 U := ⟨(hbU.cell (p := ⟨b, 0, none⟩) (lt_of_cell r0)).trans r0, (hbU.cell (p := ⟨g, off + j * 3, none⟩) hgl).trans d0, (hbU.cell (p := ⟨g, off + j * 3 + 1, none⟩) hgl).trans d1⟩
        refine mix1 rfl (fun K hK => ?_)
        go_simp
        rw [HU.out, Hs.out]
        refine hK _ _ (cls hTU) ?_
        clear hK K
        obtain ⟨v2, w2, hr2, r2, a2⟩ := appG chInf18 encC_ok (HC.out.1.below hbU) (c := 1) hI (by rw [Hdn.out]; omega) (by decide) 30
        have N2 : Hid (RG w2 2 encC v2 (dirtyL (l.take (j + 1)) x y) ∧ (∀ g, blk v2 = some g → w.heap.size ≤ g) ∧ Below w.heap.size w w2) := Lib.hid (by
          have hB := HC.out.2.2.size
          refine ⟨by rw [HE.out]; exact r2, fun q e => ?_, a2.mod.below (HC.out.2.2.trans (hbU.mono hB)) (Nat.le_trans hB hbU.size) HC.out.2.1⟩
          rcases a2.blk with e2 | ⟨q2, e2, hq2⟩
          · exact HC.out.2.1 q (e2 ▸ e)
          · rw [e2] at e
            obtain rfl := Option.some.inj e
            have := hbU.size
            omega)
        have hTw : Thr b g (off + j * 3) (.slice (some ⟨g, off, none⟩) l.length c) z.1 z.2.1 w2 := by
          have ha : ¬ blk (.slice A5 dn c5) = some b := fun e => by have := HC.out.2.1 b e; omega
          have hb : ¬ blk (.slice A5 dn c5) = some g := fun e => by have := HC.out.2.1 g e; have := hgw.out; omega
          exact ⟨(a2.mod.cell (p := ⟨b, 0, none⟩) (lt_of_cell hTU.1) ha).trans hTU.1, (a2.mod.cell (p := ⟨g, off + j * 3, none⟩) (lt_of_cell hTU.2.1) hb).trans hTU.2.1, (a2.mod.cell (p := ⟨g, off + j * 3 + 1, none⟩) (lt_of_cell hTU.2.2) hb).trans hTU.2.2⟩
        obtain ⟨A6, c6, rfl⟩ : ∃ A6 c6, v2 = .slice A6 (dn + 1) c6 := by
          obtain ⟨A6, c6, e⟩ := N2.out.1.shape
          exact ⟨A6, c6, by rw [e, HE.out, List.length_append, Hdn.out]; rfl⟩
        refine mix_append rfl rfl (.tmp 50) (.tmp 68) 30 rfl hr2 (cls hTw) ?_
        repeat (refine mix0 rfl (fun K hK => ?_); go_simp; refine hK _ ?_; clear hK K)
        refine mixEnd ?_
        clear hbU hI hTU hr2 r2 a2 hTw q0 q1 q2 hT hTd this
        go_wp2
        go_roundw
        case rel => exact ⟨j + 1, by omega, by go_num, N2⟩
        case measure => simp [intOf]; omega
      · have HE : Hid (dirtyL (l.take (j + 1)) x y = dirtyL (l.take j) x y) := Lib.hid (by
          rw [Hst.out, if_neg]
          simpa using fun a b => hd ⟨a, b⟩)
        have N2 : Hid (RG wr 2 encC (.slice A5 dn c5) (dirtyL (l.take (j + 1)) x y) ∧ (∀ g, blk (.slice A5 dn c5) = some g → w.heap.size ≤ g) ∧ Below w.heap.size w wr) := Lib.hid (by rw [HE.out]; exact HC.out)
        rcases Bool.eq_false_or_eq_true z.2.2 with hz | hz
        · rw [hz] at d2
          have hd' : z.1 < x ∨ (x ≤ z.1 ∧ y ≤ z.1) := by
            by_cases h1 : z.1 < x
            · exact .inl h1
            · refine .inr ⟨by omega, ?_⟩
              have : ¬ z.1 < y := fun h2 => hd ⟨by simp [inR]; omega, hz⟩
              omega
          clear hd hz
          rcases hd' with h1 | ⟨h1, h2⟩
          all_goals
            go_wp2_with fail
            go_roundw
            case rel => exact ⟨j + 1, by omega, by go_num, N2⟩
            case measure => simp [intOf]; omega
        · rw [hz] at d2
          clear hd hz
          go_wp2_with fail
          go_roundw
          case rel => exact ⟨j + 1, by omega, by go_num, N2⟩
          case measure => simp [intOf]; omega
    · obtain rfl : j = l.length := by omega
      have hC := HC.out
      rw [List.take_length] at hC
      have HC' := Lib.hid hC
      clear hC
      go_wp2
      go_ret
      exact ⟨A5, dn, c5, rfl, HC'.out⟩

theorem flat_flag (k : Int) (s : List UInt8) (d d' : Bool) : ∀ (l : List Li) (i : Nat), l[i]? = some (k, s, d) → (flat encL l).set (i * 3 + 2) (.bool d') = flat encL (l.set i (k, s, d'))
  | [], _, h => by simp at h
  | a :: l, 0, h => by
    simp at h
    subst h
    rfl
  | a :: l, i + 1, h => by
    have := flat_flag k s d d' l i (by simpa using h)
    rw [List.set_cons_succ, flat, flat, ← this, show (i + 1) * 3 + 2 = (i * 3 + 2) + 1 + 1 + 1 by omega]
    rfl
theorem RG.flag {w : World} {g off n c : Nat} {l : List Li} (h : RG w 3 encL (.slice (some ⟨g, off, none⟩) n c) l) {i : Nat} {k : Int} {s : List UInt8} {d : Bool} (hi : l[i]? = some (k, s, d)) (d' : Bool) :
    RG (w.setCell ⟨g, off + i * 3 + 2, none⟩ (.bool d')) 3 encL (.slice (some ⟨g, off, none⟩) n c) (l.set i (k, s, d')) := by
  obtain ⟨A, c', e⟩ := h.shape
  injection e with e1 e2 e3
  subst e2
  have hil := (List.getElem?_eq_some_iff.1 hi).1
  have h1 := rowSet h.row (j := i * 3 + 2) (by omega) (.bool d')
  rw [flat_flag k s d d' l i hi, ← Nat.add_assoc] at h1
  refine ⟨?_⟩
  rw [List.length_set]
  exact h1
set_option maxRecDepth 100000 in
set_option maxHeartbeats 8000000 in
theorem XClean_any {w : World} {b : Nat} {v : Value} {l : List Li} (h : Rc w b v l) (hr : Rise l) (A : Option Addr) (n c : Nat) (cs : List Ch) (hg : IsG w 2 encC A n cs) (ha : AsideR A n b v) :
    Calls Try.prog 15 #[.pointer (some ⟨b, 0, none⟩), .slice A n c] w fun e w' => e = .returned (.int .i64 (cleanN l cs : Int)) ∧ ∃ v', Rc w' b v' (cleanL l cs) ∧ RcTo w w' b v v' := by
  have H := Lib.hid h
  have HR := Lib.hid hr
  have HG := Lib.hid hg
  have HA := Lib.hid ha
  have Hl := Lib.hid hg.length
  have hsm := hg.small
  clear h hg ha hr
  go_enter Try.func15, Try.ntmps15
  go_wp2_with fail
  go_loopw [5, 6] (fun q i wr => ∃ (j N : Nat) (v' : Value), j ≤ n ∧ i = .int .i64 j ∧ q = .int .i64 (N : Int) ∧ N ≤ j ∧ Hid (N = cleanN l (cs.take j) ∧ Rc wr b v' (cleanL l (cs.take j)) ∧ RcTo w wr b v v')) (fun _ i _ => n - (intOf i).toNat)
  case atStart => exact ⟨0, 0, v, Nat.zero_le _, rfl, rfl, Nat.le_refl _, Lib.hid ⟨rfl, H.out, RcTo.refl _ _ _⟩⟩
  case round =>
    obtain ⟨j, N, v', hj, rfl, rfl, hNj, HC⟩ := hrel
    by_cases hlt : j < n
    · obtain ⟨x, Hx⟩ : ∃ x, Hid (cs[j]? = some x) := ⟨cs[j]'(by have := Hl.out; omega), Lib.hid (List.getElem?_eq_getElem _)⟩
      have hG := HG.out.toR HA.out HC.out.2.2
      obtain ⟨g, off, rfl, hgl, hc⟩ := hG.cells (by omega)
      have c0 := hc j x 0 _ Hx.out rfl
      have c1 := hc j x 1 _ Hx.out rfl
      rw [Nat.add_zero] at c0
      have hsn := take_snoc_of Hx.out
      obtain ⟨M, HM⟩ : ∃ M, Hid (cleanL l (cs.take j) = M) := ⟨_, Lib.hid rfl⟩
      have HS : Hid (cleanL l (cs.take (j + 1)) = clean1 M x ∧ cleanN l (cs.take (j + 1)) = N + if isIt M x then 1 else 0) := Lib.hid (by
        rw [hsn, cleanL_snoc, cleanN_snoc, HM.out, HC.out.1]
        exact ⟨rfl, rfl⟩)
      have HRM : Hid (Rise M) := Lib.hid (by rw [← HM.out]; exact HR.out.clean _)
      rw [HM.out] at HC
      clear hG hc hsn
      obtain ⟨wd, Hwd⟩ : ∃ u, Hid (wr.drew = u) := ⟨_, Lib.hid rfl⟩
      have Cd : Hid (Rc wd b v' M ∧ RcTo w wd b v v') := Lib.hid (by rw [← Hwd.out]; exact ⟨HC.out.2.1.below (Below.refl _ _).drew, HC.out.2.2.step (Below.refl _ _).drew⟩)
      by_cases hf : findI M x.1 < 0
      · have hit : isIt M x = false := by simp [isIt, findI_none.1 hf]
        have HE : Hid (cleanL l (cs.take (j + 1)) = M ∧ cleanN l (cs.take (j + 1)) = N) := Lib.hid (by rw [HS.out.1, HS.out.2, clean1, hit]; simp)
        clear hit
        have hf1 : ¬ 0 ≤ findI M x.1 := by omega
        have hf2 : decide (0 ≤ findI M x.1) = false := by simp; omega
        go_wp2_with fail
        refine (find_any HC.out.2.1 x.1).mono ?_
        rintro e w1 ⟨rfl, rfl⟩
        go_wp2_with fail
        refine wp_region_mix (by kernel_rfl) (Cls (Abv wr)) ((0, 0) :: (1, 0) :: (2, 0) :: (3, 0) :: (4, 0) :: (5, 0) :: (6, 0) :: (7, 0) :: (8, 0) :: (9, 0) :: (10, 0) :: (11, 0) :: (12, 0) :: (13, 0) :: (14, 0) :: (15, 0) :: (16, 0) :: (17, 0) :: (18, 0) :: (19, 0) :: (20, 0) :: (21, 0) :: (22, 0) :: (23, 0) :: (24, 0) :: (25, 0) :: (26, 0) :: (27, 0) :: []) (by kernel_rfl) (cls (Below.refl _ _).drew) ?_
        repeat (refine mix0 rfl (fun K hK => ?_); go_simp; refine hK _ ?_; clear hK K)
        refine mixEnd ?_
        rw [Hwd.out]
        go_wp2
        go_roundw
        case rel => exact ⟨j + 1, N, v', by omega, by go_num, rfl, by omega, Lib.hid ⟨HE.out.2.symm, by rw [HE.out.1]; exact Cd.out.1, Cd.out.2⟩⟩
        case measure => simp [intOf]; omega
      · obtain ⟨i, u, h1, h2, h3, _⟩ := findI_some hf
        obtain ⟨s, d⟩ := u
        have hcc := HC.out.2.1.cell
        have hbl := HC.out.2.1.lt
        obtain ⟨A2, c2, rfl⟩ := HC.out.2.1.row.shape
        obtain ⟨hi2, _, _⟩ := HC.out.2.1.row.is encL_ok
        have hsm2 := hi2.small
        have hil : i < M.length := (List.getElem?_eq_some_iff.1 h2).1
        obtain ⟨g2, off2, rfl, hgl2, hc2⟩ := hi2.cells (by omega)
        have d1 := hc2 i _ 1 _ h2 rfl
        have d2 := hc2 i _ 2 _ h2 rfl
        have H2 := Lib.hid h2
        have hit : isIt M x = (d && (s == x.2)) := by
          rw [isIt, h3]
          cases d <;> by_cases e : s = x.2 <;> simp [e]
        clear hi2 hc2 hf h3 h2
        have mixT : Hid (∀ y : In (Abv wr), y.u.cell? ⟨b, 0, none⟩ = some (.slice (some ⟨g2, off2, none⟩) M.length c2)) := Lib.hid (fun y => (y.is.cell (p := ⟨b, 0, none⟩) hbl).trans hcc)
        cases d
        · rw [Bool.false_and] at hit
          have HE : Hid (cleanL l (cs.take (j + 1)) = M ∧ cleanN l (cs.take (j + 1)) = N) := Lib.hid (by rw [HS.out.1, HS.out.2, clean1, hit]; simp)
          clear hit
          go_wp2_with fail
          refine (find_any HC.out.2.1 x.1).mono ?_
          rw [h1]
          rintro e w1 ⟨rfl, rfl⟩
          go_wp2_with fail
          refine wp_region_mix (by kernel_rfl) (Cls (Abv wr)) ((0, 0) :: (1, 0) :: (2, 0) :: (3, 0) :: (4, 0) :: (5, 0) :: (6, 0) :: (7, 0) :: (8, 0) :: (9, 0) :: (10, 0) :: (11, 0) :: (12, 0) :: (13, 0) :: (14, 0) :: (15, 0) :: (16, 0) :: (17, 0) :: (18, 0) :: (19, 0) :: (20, 0) :: (21, 0) :: (22, 0) :: (23, 0) :: (24, 0) :: (25, 0) :: (26, 0) :: (27, 0) :: []) (by kernel_rfl) (cls (Below.refl _ _).drew) ?_
          have q0 := mixT.out
          have q2 : ∀ y : In (Abv wr), y.u.cell? ⟨g2, off2 + i * 3 + 2, none⟩ = some (.bool false) := fun y => (y.is.cell (p := ⟨g2, off2 + i * 3 + 2, none⟩) hgl2).trans d2
          repeat (refine mix0 rfl (fun K hK => ?_); go_simp; refine hK _ ?_; clear hK K)
          refine mixEnd ?_
          clear q0 q2
          rw [Hwd.out]
          go_wp2
          go_roundw
          case rel => exact ⟨j + 1, N, _, by omega, by go_num, rfl, by omega, Lib.hid ⟨HE.out.2.symm, by rw [HE.out.1]; exact Cd.out.1, Cd.out.2⟩⟩
          case measure => simp [intOf]; omega
        · rw [Bool.true_and] at hit
          by_cases hse : s = x.2
          · subst hse
            have hit' : isIt M x = true := by rw [hit]; simp
            have HE : Hid (cleanL l (cs.take (j + 1)) = M.set i (x.1, x.2, false) ∧ cleanN l (cs.take (j + 1)) = N + 1) := Lib.hid (by
              rw [HS.out.1, HS.out.2, clean1, hit', if_pos rfl, if_pos rfl]
              exact ⟨(set_at HRM.out H2.out (x.2, false)).symm, rfl⟩)
            clear hit hit'
            have e2 : wd.frozen? ⟨g2, off2 + i * 3 + 2, none⟩ = false := (Cd.out.1.row.cell encL_ok H2.out (j := 2) rfl).2
            have f2 : wd.cell? ⟨g2, off2 + i * 3 + 2, none⟩ = some (.bool true) := by rw [← Hwd.out]; exact d2
            have fb : wd.cell? ⟨b, 0, none⟩ = some (.slice (some ⟨g2, off2, none⟩) M.length c2) := Cd.out.1.cell
            obtain ⟨we, Hwe⟩ : ∃ u, Hid (wd.setCell ⟨g2, off2 + i * 3 + 2, none⟩ (.bool false) = u) := ⟨_, Lib.hid rfl⟩
            have N2 : Hid (Rc we b (.slice (some ⟨g2, off2, none⟩) M.length c2) (M.set i (x.1, x.2, false)) ∧ RcTo w we b v (.slice (some ⟨g2, off2, none⟩) M.length c2)) := Lib.hid (by
              rw [← Hwe.out]
              have hne : g2 ≠ b := Cd.out.1.ne g2 rfl
              have m1 := (Mod.refl (· = g2) wd).set1 (o := off2 + i * 3 + 2) (.bool false)
              refine ⟨⟨(m1.cell (p := ⟨b, 0, none⟩) Cd.out.1.lt (fun e => hne e.symm)).trans Cd.out.1.cell, (m1.frozen (p := ⟨b, 0, none⟩) Cd.out.1.lt (fun e => hne e.symm)).trans Cd.out.1.fz, Cd.out.1.row.flag H2.out false, Cd.out.1.ne⟩, Cd.out.2.trans ⟨m1.mono fun _ _ e => .inr (by rw [e]; rfl), fun _ e => .inl e⟩⟩)
            go_wp2_with fail
            refine (find_any HC.out.2.1 x.1).mono ?_
            rw [h1]
            rintro e w1 ⟨rfl, rfl⟩
            go_wp2_with fail
            refine wp_region_mix (by kernel_rfl) (Cls (Abv wr)) ((0, 0) :: (1, 0) :: (2, 0) :: (3, 0) :: (4, 0) :: (5, 0) :: (6, 0) :: (7, 0) :: (8, 0) :: (9, 0) :: (10, 0) :: (11, 0) :: (12, 0) :: (13, 0) :: (14, 0) :: (15, 0) :: (16, 0) :: (17, 0) :: (18, 0) :: (19, 0) :: (20, 0) :: (21, 0) :: (22, 0) :: (23, 0) :: (24, 0) :: (25, 0) :: (26, 0) :: (27, 0) :: []) (by kernel_rfl) (cls (Below.refl _ _).drew) ?_
            have q0 := mixT.out
            have q1 : ∀ y : In (Abv wr), y.u.cell? ⟨g2, off2 + i * 3 + 1, none⟩ = some (.string (str x.2)) := fun y => (y.is.cell (p := ⟨g2, off2 + i * 3 + 1, none⟩) hgl2).trans d1
            have q2 : ∀ y : In (Abv wr), y.u.cell? ⟨g2, off2 + i * 3 + 2, none⟩ = some (.bool true) := fun y => (y.is.cell (p := ⟨g2, off2 + i * 3 + 2, none⟩) hgl2).trans d2
            have q3 : ∀ y : In (Abv wr), y.u.cell? ⟨g, off + j * 2 + 1, none⟩ = some (.string (str x.2)) := fun y => (y.is.cell (p := ⟨g, off + j * 2 + 1, none⟩) hgl).trans c1
            repeat (refine mix0 rfl (fun K hK => ?_); go_simp; refine hK _ ?_; clear hK K)
            refine mixEnd ?_
            clear q0 q1 q2 q3
            rw [Hwd.out]
            go_wp2_with fail
            rw [Hwe.out]
            go_roundw
            case rel => exact ⟨j + 1, N + 1, _, by omega, by go_num, by go_num, by omega, Lib.hid ⟨HE.out.2.symm, by rw [HE.out.1]; exact N2.out.1, N2.out.2⟩⟩
            case measure => simp [intOf]; omega
          · have hne : (s == x.2) = false := by simp [hse]
            rw [hne] at hit
            have HE : Hid (cleanL l (cs.take (j + 1)) = M ∧ cleanN l (cs.take (j + 1)) = N) := Lib.hid (by rw [HS.out.1, HS.out.2, clean1, hit]; simp)
            clear hit hse
            go_wp2_with fail
            refine (find_any HC.out.2.1 x.1).mono ?_
            rw [h1]
            rintro e w1 ⟨rfl, rfl⟩
            go_wp2_with fail
            refine wp_region_mix (by kernel_rfl) (Cls (Abv wr)) ((0, 0) :: (1, 0) :: (2, 0) :: (3, 0) :: (4, 0) :: (5, 0) :: (6, 0) :: (7, 0) :: (8, 0) :: (9, 0) :: (10, 0) :: (11, 0) :: (12, 0) :: (13, 0) :: (14, 0) :: (15, 0) :: (16, 0) :: (17, 0) :: (18, 0) :: (19, 0) :: (20, 0) :: (21, 0) :: (22, 0) :: (23, 0) :: (24, 0) :: (25, 0) :: (26, 0) :: (27, 0) :: []) (by kernel_rfl) (cls (Below.refl _ _).drew) ?_
            have q0 := mixT.out
            have q1 : ∀ y : In (Abv wr), y.u.cell? ⟨g2, off2 + i * 3 + 1, none⟩ = some (.string (str s)) := fun y => (y.is.cell (p := ⟨g2, off2 + i * 3 + 1, none⟩) hgl2).trans d1
            have q2 : ∀ y : In (Abv wr), y.u.cell? ⟨g2, off2 + i * 3 + 2, none⟩ = some (.bool true) := fun y => (y.is.cell (p := ⟨g2, off2 + i * 3 + 2, none⟩) hgl2).trans d2
            have q3 : ∀ y : In (Abv wr), y.u.cell? ⟨g, off + j * 2 + 1, none⟩ = some (.string (str x.2)) := fun y => (y.is.cell (p := ⟨g, off + j * 2 + 1, none⟩) hgl).trans c1
            repeat (refine mix0 rfl (fun K hK => ?_); go_simp; refine hK _ ?_; clear hK K)
            refine mixEnd ?_
            clear q0 q1 q2 q3
            rw [Hwd.out]
            go_wp2
            go_roundw
            case rel => exact ⟨j + 1, N, _, by omega, by go_num, rfl, by omega, Lib.hid ⟨HE.out.2.symm, by rw [HE.out.1]; exact Cd.out.1, Cd.out.2⟩⟩
            case measure => simp [intOf]; omega
    · obtain rfl : j = n := by omega
      have e : cs.take j = cs := List.take_of_length_le (by have := Hl.out; omega)
      have hC := HC.out
      rw [e] at hC
      have HC' := Lib.hid hC
      clear hC e
      go_wp2
      go_ret
      exact ⟨by rw [HC'.out.1]; rfl, v', HC'.out.2⟩
set_option maxRecDepth 100000 in
set_option maxHeartbeats 8000000 in
theorem XDrop_any {w : World} {b : Nat} {v : Value} {l : List Li} (h : Rc w b v l) (x y : Int) (hn : l.length ≤ 2000) :
    Calls Try.prog 17 #[.pointer (some ⟨b, 0, none⟩), .int .i64 x, .int .i64 y] w fun e w' => e = .returned (.int .i64 ((dirtyL l x y).length : Int)) ∧ ∃ v', Rc w' b v' (dropL l x y) ∧ RcTo w w' b v v' := by
  have H := Lib.hid h
  have hc := h.cell
  have hcf := h.fz
  have hbl := h.lt
  obtain ⟨A, c, rfl⟩ := h.row.shape
  obtain ⟨hi, _, _⟩ := h.row.is encL_ok
  have hsm := hi.small
  have Hi := Lib.hid hi
  clear h hi
  go_enter Try.func17, Try.ntmps17
  go_wp2_with fail
  go_loopw [7, 8, 9] (fun q vv i wr => ∃ j N : Nat, j ≤ l.length ∧ i = .int .i64 j ∧ q = .int .i64 (N : Int) ∧ N ≤ j ∧ Hid (N = (dirtyL (l.take j) x y).length ∧ RG wr 3 encL vv (dropL (l.take j) x y) ∧ (∀ g, blk vv = some g → w.heap.size ≤ g) ∧ Below w.heap.size w wr)) (fun _ _ i _ => l.length - (intOf i).toNat)
  case atStart => exact ⟨0, 0, Nat.zero_le _, rfl, rfl, Nat.le_refl _, Lib.hid ⟨rfl, RG.nil _ _ _, (fun g e => by cases e), Below.refl _ _⟩⟩
  case round =>
    obtain ⟨j, N, hj, rfl, rfl, hNj, HC⟩ := hrel
    obtain ⟨A5, c5, rfl⟩ := HC.out.2.1.shape
    have hdl : (dropL (l.take j) x y).length ≤ j := by
      refine Nat.le_trans (List.length_filter_le _ _) ?_
      rw [List.length_take]; omega
    obtain ⟨dn, Hdn⟩ : ∃ dn, Hid ((dropL (l.take j) x y).length = dn) := ⟨_, Lib.hid rfl⟩
    rw [Hdn.out] at hdl HC ⊢
    have r0 := (HC.out.2.2.2.cell (p := ⟨b, 0, none⟩) hbl).trans hc
    have rf := (HC.out.2.2.2.frozen (p := ⟨b, 0, none⟩) hbl).trans hcf
    by_cases hlt : j < l.length
    · obtain ⟨z, Hz⟩ : ∃ z, Hid (l[j]? = some z) := ⟨l[j], Lib.hid (List.getElem?_eq_getElem hlt)⟩
      obtain ⟨g, off, rfl, hgl, hcs⟩ := (Hi.out.below HC.out.2.2.2).cells (by omega)
      have d0 := hcs j _ 0 _ Hz.out rfl
      have d1 := hcs j _ 1 _ Hz.out rfl
      have d2 := hcs j _ 2 _ Hz.out rfl
      rw [Nat.add_zero] at d0
      have Hst := Lib.hid (And.intro (dirtyL_snoc (l.take j) z x y) (dropL_snoc (l.take j) z x y))
      rw [← take_snoc_of Hz.out] at Hst
      clear hcs rf
      by_cases hd : inR x y z.1 = true
      · have h1 : x ≤ z.1 := by simp [inR] at hd; exact hd.1
        have h2 : z.1 < y := by simp [inR] at hd; exact hd.2
        rw [hd] at Hst
        clear hd
        rcases Bool.eq_false_or_eq_true z.2.2 with hz | hz
        · rw [hz] at d2 Hst
          have N2 : Hid (N + 1 = (dirtyL (l.take (j + 1)) x y).length ∧ RG wr 3 encL (.slice A5 dn c5) (dropL (l.take (j + 1)) x y) ∧ (∀ g, blk (.slice A5 dn c5) = some g → w.heap.size ≤ g) ∧ Below w.heap.size w wr) := Lib.hid (by
            rw [Hst.out.1, Hst.out.2, HC.out.1]
            exact ⟨by simp, HC.out.2⟩)
          clear hz
          go_wp2_with fail
          go_roundw
          case rel => exact ⟨j + 1, N + 1, by omega, by go_num, by go_num, by omega, N2⟩
          case measure => simp [intOf]; omega
        · rw [hz] at d2 Hst
          have N2 : Hid (N = (dirtyL (l.take (j + 1)) x y).length ∧ RG wr 3 encL (.slice A5 dn c5) (dropL (l.take (j + 1)) x y) ∧ (∀ g, blk (.slice A5 dn c5) = some g → w.heap.size ≤ g) ∧ Below w.heap.size w wr) := Lib.hid (by
            rw [Hst.out.1, Hst.out.2]
            exact HC.out)
          clear hz
          go_wp2_with fail
          go_roundw
          case rel => exact ⟨j + 1, N, by omega, by go_num, rfl, by omega, N2⟩
          case measure => simp [intOf]; omega
      · have hd' : inR x y z.1 = false := by simpa using hd
        have hor : z.1 < x ∨ (x ≤ z.1 ∧ y ≤ z.1) := by
          simp [inR] at hd'
          omega
        rw [hd'] at Hst
        have HE : Hid (dropL (l.take (j + 1)) x y = dropL (l.take j) x y ++ [z]) := Lib.hid (by rw [Hst.out.2]; rfl)
        obtain ⟨U, HU⟩ : ∃ U, Hid (wr.alloc (.cells #[.int .i64 z.1, .string (str z.2.1), .bool z.2.2] 63) = U) := ⟨_, Lib.hid rfl⟩
        obtain ⟨s, Hs⟩ : ∃ s, Hid (wr.heap.size = s) := ⟨_, Lib.hid rfl⟩
        have hbU : Below wr.heap.size wr U := by rw [← HU.out]; exact balloc (Below.refl _ _) _
        have hI : IsG U 3 encL (some ⟨s, 0, none⟩) 1 [z] := by rw [← HU.out, ← Hs.out]; exact lnOne wr z
        obtain ⟨v2, w2, hr2, r2, a2⟩ := appG lnInf encL_ok (HC.out.2.1.below hbU) (c := 1) hI (by rw [Hdn.out]; omega) (by decide) 27
        have HR2 := Lib.hid hr2
        have N2 : Hid (N = (dirtyL (l.take (j + 1)) x y).length ∧ RG w2 3 encL v2 (dropL (l.take (j + 1)) x y) ∧ (∀ g, blk v2 = some g → w.heap.size ≤ g) ∧ Below w.heap.size w w2) := Lib.hid (by
          have hB := HC.out.2.2.2.size
          refine ⟨by rw [Hst.out.1]; exact HC.out.1, by rw [HE.out]; exact r2, fun q e => ?_, a2.mod.below (HC.out.2.2.2.trans (hbU.mono hB)) (Nat.le_trans hB hbU.size) HC.out.2.2.1⟩
          rcases a2.blk with e2 | ⟨q2, e2, hq2⟩
          · exact HC.out.2.2.1 q (e2 ▸ e)
          · rw [e2] at e
            obtain rfl := Option.some.inj e
            have := hbU.size
            omega)
        obtain ⟨A6, c6, rfl⟩ : ∃ A6 c6, v2 = .slice A6 (dn + 1) c6 := by
          obtain ⟨A6, c6, e⟩ := N2.out.2.1.shape
          exact ⟨A6, c6, by rw [e, HE.out, List.length_append, Hdn.out]; rfl⟩
        clear hbU hI hr2 r2 a2 hd hd'
        rcases hor with h1 | ⟨h1, h2⟩
        all_goals
          go_wp2_with (first | (at_builtin; rw [HU.out, Hs.out]; refine wpList_append_run rfl (.tmp 41) (.tmp 49) 27 rfl (by exact HR2.out) ?_) | fail)
          go_roundw
          case rel => exact ⟨j + 1, N, by omega, by go_num, rfl, by omega, N2⟩
          case measure => simp [intOf]; omega
    · obtain rfl : j = l.length := by omega
      have hC := HC.out
      rw [List.take_length] at hC
      have HC' := Lib.hid hC
      clear hC
      obtain ⟨we, Hwe⟩ : ∃ u, Hid (wr.setCell ⟨b, 0, none⟩ (.slice A5 dn c5) = u) := ⟨_, Lib.hid rfl⟩
      have hnb : ∀ g, blk (.slice A5 dn c5) = some g → g ≠ b := fun g e e2 => by have := HC'.out.2.2.1 g e; omega
      have N2 : Hid (Rc we b (.slice A5 dn c5) (dropL l x y) ∧ RcTo w we b (.slice A l.length c) (.slice A5 dn c5)) := Lib.hid (by
        rw [← Hwe.out]
        refine ⟨⟨set_same r0, set_frozen rf, HC'.out.2.1.later ((Mod.refl (· = b) wr).set1 _) (fun g e e2 => hnb g e e2), hnb⟩, ⟨(below_any HC'.out.2.2.2).trans (((Mod.refl (· = b) wr).set1 _).mono fun _ _ e => .inl e), fun g e => .inr (HC'.out.2.2.1 g e)⟩⟩)
      clear hnb
      go_wp2_with fail
      rw [Hwe.out]
      go_ret
      exact ⟨by rw [← HC'.out.1]; rfl, _, N2.out⟩
end Go.Proofs.Ytocnpjmhkgnomaa
