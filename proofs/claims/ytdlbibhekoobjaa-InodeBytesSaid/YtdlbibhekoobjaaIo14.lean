/- An inode as an argument; cut to twenty sectors; two compared. -/
import Derived.Test.YtdlbibhekoobjaaCk14
import Derived.OpenShut
namespace Go.Proofs.Ytdlbibhekoobjaa
open Go.RowKit Go.ChangeShapes Go.WideShapes Go.ChangeAt

@[go_sem] theorem inoV_def (x : Ino) (A : Option Addr) (n c : Nat) : inoV x A n c = .agg #[.int .i64 x.k, .int .i64 x.l, .int .i64 x.s, .slice A n c] := rfl
theorem isG_ints {H : Type} {enc : TypeId × Value → H} {W : World} {fuel : Nat} {cs : List Value} {x : DataW H × List MemPlace} (h : DataW.trod enc Try.prog W 0 (fun _ => true) true fuel 22 cs = some x) :
    ∃ A n c l, cs = [.slice A n c] ∧ IsG W 1 encI A n l ∧ n ≤ c ∧ c ≤ maxLen := by
  rcases open_ints Try.underlying22 Try.underlying3 (by kernel_rfl) h with ⟨hcs, _⟩ | ⟨a, l, c, zs, hcs, _, hl, hm, hz, _, hcell, hwz⟩
  · exact ⟨none, 0, 0, [], hcs, ⟨rfl, Nat.zero_le _, fun h => absurd h (Nat.lt_irrefl _)⟩, Nat.le_refl _, Nat.zero_le _⟩
  · have hz' : zs.length = c := by simpa using hz
    by_cases h0 : 0 < l
    · obtain ⟨b, off, rfl, hc⟩ := ints_at hcell (by omega)
      refine ⟨some ⟨b, off, none⟩, l, c, zs.take l, hcs, ⟨by simp; omega, Nat.le_trans hl hm, fun _ => ⟨b, off, rfl, lt_of_cell (hc 0 (by omega)), fun i z j u hi hj => ?_⟩⟩, hl, hm⟩
      have hil : i < l := by have := (List.getElem?_eq_some_iff.1 hi).1; simp at this; omega
      match j, hj with
      | 0, hj =>
        simp [encI] at hj
        rw [Nat.mul_one, Nat.add_zero, hc i (by omega)]
        rw [List.getElem?_take, if_pos hil] at hi
        simp [List.getD, hi, hj]
      | j + 1, hj => simp [encI] at hj
    · exact ⟨some a, l, c, [], hcs, ⟨by simp; omega, Nat.le_trans hl hm, fun h => absurd h h0⟩, hl, hm⟩
set_option maxRecDepth 100000 in
theorem open_inode {H : Type} {enc : TypeId × Value → H} {W : World} {v : Value} {d : DataW H} {p : List MemPlace} {base : Nat}
    (hv : Value.okWide Try.prog W .any base 24 v) (h : DataW.Trod enc Try.prog W 0 (fun _ => true) true 24 v d p) :
    ∃ (x : Ino) (A : Option Addr) (n c : Nat), v = inoV x A n c ∧ IsG W 1 encI A n x.d ∧ n ≤ c ∧ c ≤ maxLen ∧ (Lit.int .i64 x.s).wf = true := by
  obtain ⟨cs, rfl, hsz⟩ := okWide_struct Try.underlying24 hv
  obtain ⟨fuel, hf⟩ := h
  obtain ⟨xs, n, _, _, hl, hlen, hf⟩ := DataW.trod_struct Try.underlying24 hf
  have k3 : Try.prog.cellsOf 3 = 1 := by kernel_rfl
  have k23 : Try.prog.cellsOf 22 = 1 := by kernel_rfl
  have hC : Try.prog.cellsOf 24 = 4 := by kernel_rfl
  rw [hC] at hsz
  obtain ⟨l⟩ := cs
  have hx : ∀ i, i < 4 → ∃ y, xs[i]? = some y := fun i hi => ⟨_, List.getElem?_eq_getElem (by rw [hlen]; exact hi)⟩
  match l, hsz with
  | [a0, a1, a2, a3], _ =>
    have h0 : DataW.trod enc Try.prog W 0 (fun _ => true) true n 3 (List.take (Try.prog.cellsOf 3) [a0, a1, a2, a3]) = xs[0]? := hf 0 _ rfl
    have h1 : DataW.trod enc Try.prog W 0 (fun _ => true) true n 3 (List.take (Try.prog.cellsOf 3) [a1, a2, a3]) = xs[1]? := hf 1 _ rfl
    have h2 : DataW.trod enc Try.prog W 0 (fun _ => true) true n 3 (List.take (Try.prog.cellsOf 3) [a2, a3]) = xs[2]? := hf 2 _ rfl
    have h3 : DataW.trod enc Try.prog W 0 (fun _ => true) true n 22 (List.take (Try.prog.cellsOf 22) [a3]) = xs[3]? := hf 3 _ rfl
    rw [k3] at h0 h1 h2
    rw [k23] at h3
    obtain ⟨y0, e0⟩ := hx 0 (by omega)
    obtain ⟨y1, e1⟩ := hx 1 (by omega)
    obtain ⟨y2, e2⟩ := hx 2 (by omega)
    obtain ⟨y3, e3⟩ := hx 3 (by omega)
    obtain ⟨n0, p0, _, _⟩ := DataW.trod_int Try.underlying3 (h0.trans e0)
    obtain ⟨n1, p1, _, _⟩ := DataW.trod_int Try.underlying3 (h1.trans e1)
    obtain ⟨n2, p2, _, g2⟩ := DataW.trod_int Try.underlying3 (h2.trans e2)
    obtain ⟨A3, m3, c3, l3, p3, q3, r3, s3⟩ := isG_ints (h3.trans e3)
    simp only [List.take_succ_cons, List.take_zero, List.cons.injEq, and_true] at p0 p1 p2 p3
    subst p0 p1 p2 p3
    exact ⟨⟨n0, n1, n2, l3⟩, A3, m3, c3, rfl, q3, r3, s3, g2⟩
/-- An inode in a block that may be turned. -/
structure InoF (w : World) (b : Nat) (x : Ino) (A : Option Addr) (n c : Nat) : Prop where
  ino : InoAt w b x A n c
  free : ∀ j, j < 4 → w.frozen? ⟨b, j, none⟩ = false
theorem InoF.later {S : Nat → Prop} {w w' : World} {b : Nat} {x : Ino} {A : Option Addr} {n c : Nat} (h : InoF w b x A n c) (m : Mod S w w') (hs : ¬ S b) : InoF w' b x A n c :=
  ⟨h.ino.later m hs, fun j hj => (m.frozen (p := ⟨b, j, none⟩) h.ino.lt hs).trans (h.free j hj)⟩
theorem InoF.below {w w' : World} {b : Nat} {x : Ino} {A : Option Addr} {n c : Nat} (h : InoF w b x A n c) (m : Below w.heap.size w w') : InoF w' b x A n c := h.later (Mod.of_below (S := fun _ => False) m) id
theorem InoF.new (w : World) (x : Ino) (A : Option Addr) (n c : Nat) (t : TypeId) : InoF (w.alloc (.cells #[.int .i64 x.k, .int .i64 x.l, .int .i64 x.s, .slice A n c] t)) w.heap.size x A n c := ⟨InoAt.new w x A n c t, fun j _ => by go_simp⟩
theorem InoF.put {w : World} {b : Nat} {x : Ino} {A : Option Addr} {n c : Nat} (h : InoF w b x A n c) (y : Ino) (B : Option Addr) (m d : Nat) :
    InoF ((((w.setCell ⟨b, 0, none⟩ (.int .i64 y.k)).setCell ⟨b, 1, none⟩ (.int .i64 y.l)).setCell ⟨b, 2, none⟩ (.int .i64 y.s)).setCell ⟨b, 3, none⟩ (.slice B m d)) b y B m d :=
  ⟨⟨set_other (by simp) (set_other (by simp) (set_other (by simp) (set_same h.ino.c0))), set_other (by simp) (set_other (by simp) (set_same (set_other (by simp) h.ino.c1))),
    set_other (by simp) (set_same (set_other (by simp) (set_other (by simp) h.ino.c2))), set_same (set_other (by simp) (set_other (by simp) (set_other (by simp) h.ino.c3)))⟩,
   fun j hj => set_frozen (set_frozen (set_frozen (set_frozen (h.free j hj))))⟩
theorem results_one {fn : Func} {p : Tmp} {ty : TypeId} (h : fn.results = #[.cell p ty]) (tmps : Array Value) (P : Program) (w : World) :
    (results fn tmps).run P w = ((asAddr (tmps.getD p undef)).run P w).andThen fun a w₁ => (loadVar ty a).run P w₁ := by
  simp only [results, h]
  simp [Sem.run_bind, Result.andThen]
def smallI (x : Ino) : Ino := ⟨x.k, x.l, x.s, x.d.take 20⟩
set_option maxRecDepth 100000 in
set_option maxHeartbeats 2000000 in
theorem smallI_any (x : Ino) (A : Option Addr) (n c : Nat) (hnc : n ≤ c) (hcm : c ≤ maxLen) (w : World) (h : IsG w 1 encI A n x.d) :
    Calls Try.prog 11 #[inoV x A n c] w fun e w' => ∃ m, e = .returned (inoV (smallI x) A m c) ∧ m ≤ 20 ∧ (∀ u, IsG u 1 encI A n x.d → IsG u 1 encI A m (smallI x).d) ∧ Below w.heap.size w w' := by
  have hnm : n ≤ 9223372036854775807 := h.small
  have hcm2 : c ≤ 9223372036854775807 := by unfold maxLen at hcm; omega
  rw [inoV]
  by_cases h20 : 20 < n
  · have hI : ∀ u, IsG u 1 encI A n x.d → IsG u 1 encI A 20 (smallI x).d := fun u hu => hu.take (by omega)
    have HI := Lib.hid hI
    have h20c : (20 : Int) ≤ (c : Int) := by omega
    have h20n : (20 : Int) < (n : Int) := by omega
    obtain ⟨g, off, rfl, _, _⟩ := h.cells (by omega)
    clear h hI
    go_enter Try.func11, Try.ntmps11
    go_wp2
    refine bodyPost_ret (v := inoV (smallI x) (some ⟨g, off, none⟩) 20 c) ?_ rfl ⟨20, rfl, Nat.le_refl _, HI.out, ?_⟩
    · rw [results_one rfl]
      go_simp
      all_goals first | rfl | ((repeat' apply And.intro) <;> rfl)
    · exact balloc (balloc (Below.refl _ w) _) _
  · have e : (smallI x).d = x.d := by show x.d.take 20 = x.d; exact List.take_of_length_le (by rw [h.length]; omega)
    have e2 : smallI x = x := by
      obtain ⟨a, b, c', d⟩ := x
      simp only [smallI, Ino.mk.injEq, true_and]
      exact e
    have HI : Hid (∀ u, IsG u 1 encI A n x.d → IsG u 1 encI A n x.d) := Lib.hid (fun _ h => h)
    rw [e2]
    have h20n : ¬ (20 : Int) < (n : Int) := by omega
    clear h e e2
    go_enter Try.func11, Try.ntmps11
    go_wp2
    refine bodyPost_ret (v := inoV x A n c) ?_ rfl ⟨n, rfl, by omega, HI.out, ?_⟩
    · rw [results_one rfl]
      go_simp
      all_goals first | rfl | ((repeat' apply And.intro) <;> rfl)
    · exact balloc (balloc (Below.refl _ w) _) _
/-! ### two compared -/
def sameI (x y : Ino) : Bool := decide (x.k = y.k) && (decide (x.l = y.l) && (decide (x.s = y.s) && decide (x.d = y.d)))
theorem sameI_iff (x y : Ino) : sameI x y = true ↔ x = y := by
  obtain ⟨a, b, c, d⟩ := x
  obtain ⟨a', b', c', d'⟩ := y
  simp [sameI]
set_option maxRecDepth 100000 in
set_option maxHeartbeats 2000000 in
theorem Same_any (x y : Ino) (A B : Option Addr) (n c m d : Nat) (w : World) (hx : IsG w 1 encI A n x.d) (hy : IsG w 1 encI B m y.d) (hn : n ≤ 1000) (hm : m ≤ 1000) :
    Calls Try.prog 14 #[inoV x A n c, inoV y B m d] w fun e w' => e = .returned (.bool (sameI x y)) ∧ Below w.heap.size w w' := by
  have Hx := Lib.hid hx
  have Hy := Lib.hid hy
  obtain ⟨p, Hp⟩ : ∃ p, Hid (w.heap.size = p) := ⟨_, Lib.hid rfl⟩
  obtain ⟨W, HW⟩ : ∃ z, Hid ((w.alloc (.cells #[.int .i64 x.k, .int .i64 x.l, .int .i64 x.s, .slice A n c] 24)).alloc (.cells #[.int .i64 y.k, .int .i64 y.l, .int .i64 y.s, .slice B m d] 24) = z) := ⟨_, Lib.hid rfl⟩
  have BW : Hid (Below w.heap.size w W) := Lib.hid (by rw [← HW.out]; exact balloc (balloc (Below.refl _ w) _) _)
  have HI : Hid (InoAt W p x A n c) := Lib.hid (by rw [← HW.out, ← Hp.out]; exact (InoAt.new w x A n c _).below (balloc (Below.refl _ _) _))
  have HJ : Hid (InoAt W (p + 1) y B m d) := Lib.hid (by
    have h := InoAt.new (w.alloc (.cells #[.int .i64 x.k, .int .i64 x.l, .int .i64 x.s, .slice A n c] 24)) y B m d 24
    rw [show (w.alloc (.cells #[.int .i64 x.k, .int .i64 x.l, .int .i64 x.s, .slice A n c] 24)).heap.size = p + 1 by rw [← Hp.out]; simp] at h
    rw [← HW.out]; exact h)
  have Hdx : Hid (IsG W 1 encI A n x.d) := Lib.hid (hx.below BW.out)
  have Hdy : Hid (IsG W 1 encI B m y.d) := Lib.hid (hy.below BW.out)
  have Hlx := Lib.hid hx.length
  have Hly := Lib.hid hy.length
  have hW := HW.out
  have hp := Hp.out
  have lt1 := HI.out.lt
  have lt2 := HJ.out.lt
  obtain ⟨c0, c1, c2, c3⟩ := HI.out
  obtain ⟨d0, d1, d2, d3⟩ := HJ.out
  obtain ⟨R, HR⟩ : ∃ b, Hid (sameI x y = b) := ⟨_, Lib.hid rfl⟩
  rw [HR.out, inoV, inoV]
  clear hx hy
  by_cases hk : x.k = y.k
  case neg =>
    have hb : (x.k != y.k) = true := by simp [hk]
    have hR : R = false := by rw [← HR.out, sameI, decide_eq_false hk, Bool.false_and]
    subst hR
    clear hk
    go_enter Try.func14, Try.ntmps14
    go_wp2
    go_ret
    exact ⟨rfl, BW.out⟩
  case pos =>
  have hbk : (x.k != y.k) = false := by simp [hk]
  by_cases hl : x.l = y.l
  case neg =>
    have hb : (x.l != y.l) = true := by simp [hl]
    have hR : R = false := by rw [← HR.out, sameI, decide_eq_false hl, Bool.false_and, Bool.and_false]
    subst hR
    clear hk hl
    go_enter Try.func14, Try.ntmps14
    go_wp2
    go_ret
    exact ⟨rfl, BW.out⟩
  case pos =>
  have hbl : (x.l != y.l) = false := by simp [hl]
  by_cases hs : x.s = y.s
  case neg =>
    have hb : (x.s != y.s) = true := by simp [hs]
    have hR : R = false := by rw [← HR.out, sameI, decide_eq_false hs, Bool.false_and, Bool.and_false, Bool.and_false]
    subst hR
    clear hk hl hs
    go_enter Try.func14, Try.ntmps14
    go_wp2
    go_ret
    exact ⟨rfl, BW.out⟩
  case pos =>
  have hbs : (x.s != y.s) = false := by simp [hs]
  have HR2 : Hid (decide (x.d = y.d) = R) := Lib.hid (by rw [← HR.out, sameI, decide_eq_true hk, decide_eq_true hl, decide_eq_true hs]; rfl)
  clear hk hl hs
  by_cases hnm : n = m
  case neg =>
    have hb : ((n : Int) != (m : Int)) = true := by simp; omega
    have hR : R = false := by rw [← HR2.out]; exact decide_eq_false (fun e => hnm (by rw [← Hlx.out, ← Hly.out, e]))
    subst hR
    clear hnm
    go_enter Try.func14, Try.ntmps14
    go_wp2
    go_ret
    exact ⟨rfl, BW.out⟩
  case pos =>
  subst hnm
  go_enter Try.func14, Try.ntmps14
  go_wp2_with fail
  go_loopw [5] (fun i wr => ∃ j q : Nat, j ≤ n ∧ i = .int .i64 j ∧ Hid (x.d.take j = y.d.take j) ∧ Hid (wr = W.drewN q)) (fun i _ => n - (intOf i).toNat)
  case atStart => exact ⟨0, 0, Nat.zero_le _, rfl, Lib.hid rfl, Lib.hid rfl⟩
  case round =>
    obtain ⟨j, q, hj, rfl, HT, Hwr⟩ := hrel
    have hwr := Hwr.out
    subst hwr
    by_cases hlt : j < n
    · have hltI : (j : Int) < (n : Int) := by omega
      obtain ⟨a, ha⟩ : ∃ a, x.d[j]? = some a := ⟨_, List.getElem?_eq_getElem (by rw [Hlx.out]; exact hlt)⟩
      obtain ⟨b, hb⟩ : ∃ b, y.d[j]? = some b := ⟨_, List.getElem?_eq_getElem (by rw [Hly.out]; exact hlt)⟩
      obtain ⟨g, off, rfl, e0⟩ := Hdx.out.num ha
      obtain ⟨g', off', rfl, e1⟩ := Hdy.out.num hb
      have Ha := Lib.hid ha
      have Hb := Lib.hid hb
      clear ha hb
      by_cases hab : a = b
      · have hbb : (a != b) = false := by simp [hab]
        have HT2 : Hid (x.d.take (j + 1) = y.d.take (j + 1)) := Lib.hid (by
          obtain ⟨h1, h2⟩ := List.getElem?_eq_some_iff.1 Ha.out
          obtain ⟨h3, h4⟩ := List.getElem?_eq_some_iff.1 Hb.out
          rw [List.take_succ_eq_append_getElem h1, List.take_succ_eq_append_getElem h3, HT.out, h2, h4, hab])
        clear hab
        go_wp2_with fail
        go_quiet (fail)
        go_wp2
        go_roundw
        case rel => exact ⟨j + 1, _, by omega, by go_num, HT2, Lib.hid rfl⟩
        case measure => simp [intOf]; omega
      · have hbb : (a != b) = true := by simp [hab]
        have hR : R = false := by
          rw [← HR2.out]
          refine decide_eq_false (fun e => hab ?_)
          have := Ha.out
          rw [e, Hb.out] at this
          exact (Option.some.inj this).symm
        have HRf := Lib.hid hR
        have BE : Hid (∀ k, Below w.heap.size w ((W.drewN q).drewN k)) := Lib.hid (fun k => bnext (bnext BW.out (below_drewN W q)) (below_drewN _ k))
        clear hab hR
        go_wp2_with fail
        go_quiet (fail)
        go_wp2
        go_ret
        exact ⟨ret_bool HRf.out.symm, by first | exact BE.out _ | (rw [← hp]; exact BE.out _)⟩
    · have hjn : j = n := by omega
      have hltI : ¬ (j : Int) < (n : Int) := by omega
      have HRt : Hid (R = true) := Lib.hid (by
        rw [← HR2.out]
        have h := HT.out
        rw [hjn, List.take_of_length_le (by rw [Hlx.out]; exact Nat.le_refl _), List.take_of_length_le (by rw [Hly.out]; exact Nat.le_refl _)] at h
        exact decide_eq_true h)
      have BE := Lib.hid (bnext BW.out (below_drewN W q))
      clear hjn
      go_wp2
      go_ret
      exact ⟨ret_bool HRt.out.symm, by first | exact BE.out | (rw [← hp]; exact BE.out)⟩
end Go.Proofs.Ytdlbibhekoobjaa
