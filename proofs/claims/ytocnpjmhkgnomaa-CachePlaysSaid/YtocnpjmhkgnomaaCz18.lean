/- What is dropped out of a cache; the chapter's examples, at this translation. -/
import Derived.Test.YtocnpjmhkgnomaaCy18
namespace Go.Proofs.Ytocnpjmhkgnomaa
open Go.RowKit Go.MapKept Go.Sort

def delL (l : List Li) (k : Int) : List Li := l.filter fun x => decide (x.1 ≠ k)
theorem delL_all (l : List Li) (ks : List Int) : ks.foldl delL l = l.filter fun x => decide (x.1 ∉ ks) := by
  induction ks generalizing l with
  | nil => exact (List.filter_eq_self.2 fun _ _ => by simp).symm
  | cons k ks ih =>
    rw [List.foldl_cons, ih, delL, List.filter_filter]
    refine List.filter_congr fun x _ => ?_
    by_cases h1 : x.1 = k <;> by_cases h2 : x.1 ∈ ks <;> simp [h1, h2]
theorem delL_keys (l : List Li) (a b : Int) : (keysL l a b).foldl delL l = dropL l a b := by
  rw [delL_all, dropL]
  refine List.filter_congr fun x hx => ?_
  have : x.1 ∈ keysL l a b ↔ inR a b x.1 = true := by
    rw [mem_keysL, mapL_ne]
    exact ⟨fun h => h.1, fun h => ⟨h, List.mem_map.2 ⟨x, hx, rfl⟩⟩⟩
  cases hr : inR a b x.1 with
  | true => simp [this, hr]
  | false => simp [this, hr]
theorem mapL_del {l : List Li} (h : Rise l) (k : Int) : put (mapL l) k none = mapL (delL l k) := by
  funext i
  unfold put mapL delL
  rw [look_filter h]
  by_cases e : i = k
  · rw [if_pos e]; cases look l i <;> simp [e]
  · rw [if_neg e]; cases look l i <;> simp [e]
theorem Ca.del {w : World} {b g : Nat} {l : List Li} (h : Ca w b (some g) l) (k : Int) (hk : (Lit.int .i64 k).wf = true) (ty : TypeId) :
    ∃ w', (Builtin.delete_ #[TM, 3] ty #[.map (some g), .int .i64 k]).run Try.prog w = .ok (.tuple #[]) w' ∧ Ca w' b (some g) (delL l k) ∧ Mod (· = g) w w' := by
  obtain ⟨w', hrun, h1, h2, _⟩ := (h.map g rfl).drop (ty := ty) Try.underlying52 hk
  have hne := (h.ne rfl).1
  rw [mapL_del h.rise k] at h1
  refine ⟨w', hrun, ⟨h.rise.filter _, fun x hx => h.wf x (List.mem_filter.1 hx).1, (h2.cell (p := ⟨b, 0, none⟩) h.lt (fun e => hne e.symm)).trans h.cell, (h2.frozen (p := ⟨b, 0, none⟩) h.lt (fun e => hne e.symm)).trans h.fz, (fun e => by cases e), fun g' hg' => ?_⟩, h2⟩
  obtain rfl := Option.some.inj hg'
  exact (h1.exact (h.rise.filter _)).1
theorem delL_length (l : List Li) (k : Int) : (delL l k).length ≤ l.length := List.length_filter_le _ _
set_option maxRecDepth 100000 in
theorem Drop_nil (w : World) (x y : Int) :
    Calls Try.prog 16 #[.pointer none, .int .i64 x, .int .i64 y] w fun e w' => e = .returned (.int .i64 0) ∧ w = w' := by
  go_enter Try.func16, Try.ntmps16
  go_wp2_with fail
  refine (Dirty_nil _ x y).mono ?_
  rintro e w1 ⟨rfl, rfl⟩
  go_wp2_with fail
  refine (within_nil _ x y).mono ?_
  rintro e w1 ⟨rfl, rfl⟩
  go_wp2_with fail
  refine wp_loop_rounds 1 ?_
  rw [rounds_succ]
  go_wp2
  go_ret
  exact ⟨rfl, rfl⟩
set_option maxRecDepth 100000 in
set_option maxHeartbeats 2000000 in
theorem Drop_any {w : World} {b : Nat} {m : Option Nat} {l : List Li} (h : Ca w b m l) (x y : Int) (hn : l.length ≤ 1000) :
    Calls Try.prog 16 #[.pointer (some ⟨b, 0, none⟩), .int .i64 x, .int .i64 y] w fun e w' => e = .returned (.int .i64 ((dirtyL l x y).length : Int)) ∧ Ca w' b m (dropL l x y) ∧ CaTo w w' b m m := by
  have H := Lib.hid h
  rw [← delL_keys]
  obtain ⟨ks, Hks⟩ : ∃ ks, Hid (keysL l x y = ks) := ⟨_, Lib.hid rfl⟩
  obtain ⟨dn, Hdn⟩ : ∃ dn, Hid ((dirtyL l x y).length = dn) := ⟨_, Lib.hid rfl⟩
  have Hkl : Hid (ks.length ≤ 1000) := Lib.hid (by rw [← Hks.out]; exact Nat.le_trans (keysL_length _ _ _) hn)
  have Hkw : Hid (∀ k ∈ ks, (Lit.int .i64 k).wf = true) := Lib.hid (fun k hk => by
    rw [← Hks.out, keysL, List.mem_map] at hk
    obtain ⟨z, hz, rfl⟩ := hk
    exact H.out.wf z (List.mem_filter.1 hz).1)
  have Hno : Hid (m = none → ks = []) := Lib.hid (fun e => by rw [← Hks.out, H.out.no e]; rfl)
  rw [Hks.out, Hdn.out]
  clear h
  go_enter Try.func16, Try.ntmps16
  go_wp2_with fail
  refine (Dirty_any H.out x y hn).mono ?_
  rintro e w1 ⟨A0, n0, c0, rfl, hg0, _, hb0⟩
  obtain rfl : n0 = dn := by
    obtain ⟨A', c', e⟩ := hg0.shape
    injection e with _ e
    exact e.trans Hdn.out
  have C1 : Hid (Ca w1 b m l) := Lib.hid (H.out.below hb0)
  have Hb0 := Lib.hid hb0
  clear hb0 hg0
  go_wp2_with fail
  refine (within_any C1.out x y hn).mono ?_
  rw [Hks.out]
  rintro e w2 ⟨A, n, c, rfl, hg, hA, hb⟩
  have HG := Lib.hid hg
  have HA := Lib.hid hA
  have C2 : Hid (Ca w2 b m l) := Lib.hid (C1.out.below hb)
  have Hb2 : Hid (Below w.heap.size w w2) := Lib.hid (bnext Hb0.out hb)
  have Hap : Hid (∀ g off, A = some ⟨g, off, none⟩ → g ≠ b ∧ m ≠ some g) := Lib.hid (fun g off e => by
    have h1 := hA g off e
    have h2 := C1.out.lt
    refine ⟨by omega, fun e2 => ?_⟩
    have := (C1.out.ne e2).2
    omega)
  have hnl : n = ks.length := hg.length.symm
  subst hnl
  have hsm : ks.length ≤ 1000 := Hkl.out
  clear hg hA hb
  go_wp2_with fail
  go_loopw [20] (fun i wr => ∃ j : Nat, j ≤ ks.length ∧ i = .int .i64 j ∧ Hid (Ca wr b m ((ks.take j).foldl delL l) ∧ CaTo w2 wr b m m)) (fun i _ => ks.length - (intOf i).toNat)
  case atStart => exact ⟨0, Nat.zero_le _, rfl, Lib.hid ⟨C2.out, CaTo.refl _ _ _⟩⟩
  case round =>
    obtain ⟨j, hj, rfl, HC⟩ := hrel
    by_cases hlt : j < ks.length
    · obtain ⟨k, Hk⟩ : ∃ k, Hid (ks[j]? = some k) := ⟨ks[j], Lib.hid (List.getElem?_eq_getElem hlt)⟩
      have hG := HG.out.later HC.out.2.mod (fun g off e _ hs => hs.elim (Hap.out g off e).1 (Hap.out g off e).2)
      obtain ⟨g, off, rfl, hgl, hc⟩ := hG.cells (by omega)
      have c0 := hc j k 0 _ Hk.out rfl
      rw [Nat.mul_one, Nat.add_zero] at c0
      have wf := Hkw.out k (List.mem_of_getElem? Hk.out)
      have Hsn : Hid (ks.take (j + 1) = ks.take j ++ [k]) := Lib.hid (by
        obtain ⟨hjl, ej⟩ := List.getElem?_eq_some_iff.1 Hk.out
        rw [List.take_succ_eq_append_getElem hjl, ej])
      cases m with
      | none =>
        have := Hno.out rfl
        rw [this] at hlt
        simp at hlt
      | some q =>
        have cc := HC.out.1.cell
        obtain ⟨w3, hrun, h3, m3⟩ := HC.out.1.del k wf 0
        have H3 : Hid (Ca w3 b (some q) ((ks.take (j + 1)).foldl delL l) ∧ CaTo w2 w3 b (some q) (some q)) := Lib.hid (by
          rw [Hsn.out, List.foldl_append]
          exact ⟨h3, HC.out.2.trans ⟨m3.mono fun _ _ e => .inr (by rw [e]), .inl rfl⟩⟩)
        clear h3 m3 hG hc
        go_wp2
        go_roundw
        case rel => exact ⟨j + 1, by omega, by go_num, H3⟩
        case measure => simp [intOf]; omega
    · obtain rfl : j = ks.length := by omega
      go_wp2
      go_ret
      have hC := HC.out
      rw [List.take_length] at hC
      exact ⟨rfl, hC.1, CaTo.after Hb2.out hC.2⟩
/-- A cache of the call's own. -/
structure KC (w u : World) (b : Nat) (m : Option Nat) (l : List Li) : Prop where
  ca : Ca u b m l
  below : Below w.heap.size w u
  low : w.heap.size ≤ b
  new : ∀ g, m = some g → w.heap.size ≤ g
theorem KC.to {w u v : World} {b : Nat} {m m' : Option Nat} {l l' : List Li} (h : KC w u b m l) (k : Ca v b m' l') (t : CaTo u v b m m') : KC w v b m' l' :=
  ⟨k, t.below h.below h.below.size h.low h.new, h.low, t.ge h.new h.below.size⟩
theorem KC.later {w u v : World} {b : Nat} {m : Option Nat} {l : List Li} (h : KC w u b m l) (k : Below u.heap.size u v) : KC w v b m l :=
  ⟨h.ca.below k, bnext h.below k, h.low, h.new⟩
theorem KC.aside {w u : World} {b : Nat} {m : Option Nat} {l : List Li} (h : KC w u b m l) {q n : Nat} (hq : u.heap.size ≤ q) : Aside (some ⟨q, 0, none⟩) n b m := by
  intro g off e _
  injection e with e
  injection e with e1 e2
  have h1 := h.ca.lt
  refine ⟨by omega, fun e3 => ?_⟩
  have := (h.ca.ne e3).2
  omega
theorem results_cell18 {fn : Func} {p : Tmp} {ty : TypeId} (h : fn.results = #[.cell p ty]) (tmps : Array Value) (P : Program) (w : World) :
    (results fn tmps).run P w = ((asAddr (tmps.getD p undef)).run P w).andThen fun a w₁ => (loadVar ty a).run P w₁ := by
  simp only [results, h]
  simp [Sem.run_bind, Result.andThen]
theorem one_any (k : Int) (s : List UInt8) (w : World) :
    Calls Try.prog 25 #[.int .i64 k, .string (str s)] w fun e w' => e = .returned (.agg #[.int .i64 k, .string (str s)]) ∧ Below w.heap.size w w' := by
  go_enter Try.func25, Try.ntmps25
  go_wp2
  refine bodyPost_ret (v := .agg #[.int .i64 k, .string (str s)]) ?_ rfl ⟨rfl, ?_⟩
  · rw [results_cell18 rfl]
    go_simp
  · exact balloc (Below.refl _ _) _
theorem wf3 : (Lit.int .i64 3).wf = true := by decide
/-- A change that was just made lies aside. -/
theorem KC.box {w u : World} {b : Nat} {m : Option Nat} {l : List Li} (h : KC w u b m l) (c : Ch) {U : World} {p : Nat} (hU : u.alloc (.cells #[.int .i64 c.1, .string (str c.2)] 36) = U) (hp : u.heap.size = p) :
    IsG U 2 encC (some ⟨p, 0, none⟩) 1 [c] ∧ KC w U b m l ∧ Aside (some ⟨p, 0, none⟩) 1 b m ∧ Below u.heap.size u U := by
  rw [← hU, ← hp]
  exact ⟨chOne u c, h.later (balloc (Below.refl _ _) _), h.aside (Nat.le_refl _), balloc (Below.refl _ _) _⟩
set_option maxRecDepth 100000 in
set_option maxHeartbeats 2000000 in
theorem awk18_any (w : World) :
    Calls Try.prog 8 #[] w fun e w' => e = .returned (.bool true) ∧ Below w.heap.size w w' := by
  go_enter Try.func8, Try.ntmps8
  go_wp2_with fail
  refine (New_any _).mono ?_
  rintro e w1 ⟨b, rfl, c1, l1, b1⟩
  have K1 : Hid (KC w w1 b none []) := Lib.hid ⟨c1, b1, l1, (fun _ e => by cases e)⟩
  clear c1 l1 b1
  go_wp2_with fail
  refine (Load_any K1.out.ca 3 wf3 [97] (by decide)).mono ?_
  rintro e w2 ⟨rfl, m2, c2, t2⟩
  have K2 : Hid (KC w w2 b m2 [(3, [97], false)]) := Lib.hid (K1.out.to c2 t2)
  clear c2 t2
  go_wp2_with fail
  refine (one_any 3 [98] _).mono ?_
  rintro e w3 ⟨rfl, b3⟩
  obtain ⟨u3, Hu3⟩ : ∃ u, Hid (w3.alloc (.cells #[.int .i64 3, .string (str [98])] 36) = u) := ⟨_, Lib.hid rfl⟩
  obtain ⟨p3, Hp3⟩ : ∃ p, Hid (w3.heap.size = p) := ⟨_, Lib.hid rfl⟩
  have G3 := Lib.hid ((K2.out.later b3).box (3, [98]) Hu3.out Hp3.out)
  clear b3
  go_wp2_with fail
  rw [Hu3.out, Hp3.out]
  refine (Put_any G3.out.2.1.ca _ 1 1 [(3, [98])] G3.out.1 G3.out.2.2.1 (by simp [wf3]) (by decide)).mono ?_
  rintro e w4 ⟨rfl, m4, c4, t4⟩
  have K4 : Hid (KC w w4 b m4 [(3, [98], true)]) := Lib.hid (G3.out.2.1.to c4 t4)
  clear c4 t4
  go_wp2_with fail
  refine (Get_any K4.out.ca 3 wf3).mono ?_
  rw [show kvOf [(3, [98], true)] 3 = ([98], true) by rfl, show (look [(3, [98], true)] 3).isSome = true by rfl]
  rintro e w5 ⟨rfl, b5⟩
  have K5 : Hid (KC w w5 b m4 [(3, [98], true)]) := Lib.hid (K4.out.later b5)
  clear b5
  go_wp2_with fail
  refine (Dirty_any K5.out.ca 0 9 (by decide)).mono ?_
  rw [show dirtyL [(3, [98], true)] 0 9 = [(3, [98])] by rfl]
  rintro e w6 ⟨A6, n6, c6, rfl, g6, l6, b6⟩
  have K6 : Hid (KC w w6 b m4 [(3, [98], true)]) := Lib.hid (K5.out.later b6)
  obtain rfl : n6 = 1 := by
    obtain ⟨A', c', e⟩ := g6.shape
    injection e with _ e
  have G6 : Hid (IsG w6 2 encC A6 1 [(3, [98])]) := Lib.hid (g6.is encC_ok).1
  have A6s : Hid (Aside A6 1 b m4) := Lib.hid (fun g off e _ => by
    have h1 := l6 g (by rw [e]; rfl)
    have h2 := K5.out.ca.lt
    refine ⟨by omega, fun e3 => ?_⟩
    have := (K5.out.ca.ne e3).2
    omega)
  clear b6 g6 l6
  go_wp2_with fail
  refine (one_any 3 [97] _).mono ?_
  rintro e w7 ⟨rfl, b7⟩
  obtain ⟨u7, Hu7⟩ : ∃ u, Hid (w7.alloc (.cells #[.int .i64 3, .string (str [97])] 36) = u) := ⟨_, Lib.hid rfl⟩
  obtain ⟨p7, Hp7⟩ : ∃ p, Hid (w7.heap.size = p) := ⟨_, Lib.hid rfl⟩
  have G7 := Lib.hid ((K6.out.later b7).box (3, [97]) Hu7.out Hp7.out)
  have G67 : Hid (IsG u7 2 encC A6 1 [(3, [98])]) := Lib.hid ((G6.out.below b7).below G7.out.2.2.2)
  clear b7
  go_wp2_with fail
  rw [Hu7.out, Hp7.out]
  refine (Clean_any G7.out.2.1.ca _ 1 1 [(3, [97])] G7.out.1 G7.out.2.2.1 (by simp [wf3]) (by decide)).mono ?_
  rw [show cleanN [(3, [98], true)] [(3, [97])] = 0 by rfl, show cleanL [(3, [98], true)] [(3, [97])] = [(3, [98], true)] by rfl]
  rintro e w8 ⟨rfl, m8, c8, t8⟩
  have K8 : Hid (KC w w8 b m8 [(3, [98], true)]) := Lib.hid (G7.out.2.1.to c8 t8)
  have G8 : Hid (IsG w8 2 encC A6 1 [(3, [98])]) := Lib.hid (G67.out.to A6s.out t8)
  have A8s : Hid (Aside A6 1 b m8) := Lib.hid (A6s.out.to t8 G67.out)
  clear c8 t8
  go_wp2_with fail
  refine (one_any 3 [98] _).mono ?_
  rintro e w9 ⟨rfl, b9⟩
  obtain ⟨u9, Hu9⟩ : ∃ u, Hid (w9.alloc (.cells #[.int .i64 3, .string (str [98])] 36) = u) := ⟨_, Lib.hid rfl⟩
  obtain ⟨p9, Hp9⟩ : ∃ p, Hid (w9.heap.size = p) := ⟨_, Lib.hid rfl⟩
  have G9 := Lib.hid ((K8.out.later b9).box (3, [98]) Hu9.out Hp9.out)
  have G89 : Hid (IsG u9 2 encC A6 1 [(3, [98])]) := Lib.hid ((G8.out.below b9).below G9.out.2.2.2)
  clear b9
  go_wp2_with fail
  rw [Hu9.out, Hp9.out]
  refine (Clean_any G9.out.2.1.ca _ 1 1 [(3, [98])] G9.out.1 G9.out.2.2.1 (by simp [wf3]) (by decide)).mono ?_
  rw [show cleanN [(3, [98], true)] [(3, [98])] = 1 by rfl, show cleanL [(3, [98], true)] [(3, [98])] = [(3, [98], false)] by rfl]
  rintro e w10 ⟨rfl, m10, c10, t10⟩
  have K10 : Hid (KC w w10 b m10 [(3, [98], false)]) := Lib.hid (G9.out.2.1.to c10 t10)
  have G10 : Hid (IsG w10 2 encC A6 1 [(3, [98])]) := Lib.hid (G89.out.to A8s.out t10)
  have A10s : Hid (Aside A6 1 b m10) := Lib.hid (A8s.out.to t10 G89.out)
  clear c10 t10
  go_wp2_with fail
  refine (Dirty_any K10.out.ca 0 9 (by decide)).mono ?_
  rw [show dirtyL [(3, [98], false)] 0 9 = [] by rfl]
  rintro e w11 ⟨A11, n11, c11, rfl, g11, l11, b11⟩
  have K11 : Hid (KC w w11 b m10 [(3, [98], false)]) := Lib.hid (K10.out.later b11)
  obtain rfl : n11 = 0 := by
    obtain ⟨A', c', e⟩ := g11.shape
    injection e with _ e
  have G11 : Hid (IsG w11 2 encC A6 1 [(3, [98])]) := Lib.hid (G10.out.below b11)
  clear b11 g11 l11
  go_wp2_with fail
  refine (Drop_any K11.out.ca 3 4 (by decide)).mono ?_
  rw [show dirtyL [(3, [98], false)] 3 4 = [] by rfl, show dropL [(3, [98], false)] 3 4 = [] by rfl]
  rintro e w12 ⟨rfl, c12, t12⟩
  have K12 : Hid (KC w w12 b m10 []) := Lib.hid (K11.out.to c12 t12)
  have G12 : Hid (IsG w12 2 encC A6 1 [(3, [98])]) := Lib.hid (G11.out.to A10s.out t12)
  clear c12 t12
  go_wp2_with fail
  refine (Get_any K12.out.ca 3 wf3).mono ?_
  rw [show kvOf [] 3 = ([], false) by rfl, show (look [] 3).isSome = false by rfl]
  rintro e w13 ⟨rfl, b13⟩
  have K13 : Hid (KC w w13 b m10 []) := Lib.hid (K12.out.later b13)
  obtain ⟨g, off, rfl, hgl, hc⟩ := (G12.out.below b13).cells (by omega)
  have c0 := hc 0 (3, [98]) 0 _ rfl rfl
  have c1 := hc 0 (3, [98]) 1 _ rfl rfl
  simp only [Nat.zero_mul, Nat.add_zero] at c0 c1
  clear b13 hc
  go_wp2_with fail
  refine wp_region_mix (by kernel_rfl) (Cls (Abv w13)) [(0, 0), (1, 0), (2, 0), (3, 0), (4, 0), (5, 0), (6, 0), (7, 0), (8, 0), (9, 0), (10, 0), (11, 0), (12, 0), (13, 0), (14, 1), (15, 0), (16, 0), (17, 0), (18, 0), (19, 0), (20, 0), (21, 0), (22, 0), (23, 0), (24, 0), (25, 0), (26, 0), (27, 0), (28, 0), (29, 0), (30, 0), (31, 0), (32, 0), (33, 0), (34, 0), (35, 0), (36, 0), (37, 0), (38, 0)] (by kernel_rfl) (cls (Below.refl _ _).drew) ?_
  have q0 : ∀ y : In (Abv w13), y.u.cell? ⟨g, off, none⟩ = some (.int .i64 3) := fun y => (y.is.cell (p := ⟨g, off, none⟩) hgl).trans c0
  have q1 : ∀ y : In (Abv w13), y.u.cell? ⟨g, off + 1, none⟩ = some (.string (str [98])) := fun y => (y.is.cell (p := ⟨g, off + 1, none⟩) hgl).trans c1
  repeat (refine mix0 rfl (fun K hK => ?_); go_simp; refine hK _ ?_; clear hK K)
  refine mix1 rfl (fun K hK => ?_)
  go_simp
  refine (one_any 3 [98] _).mono ?_
  rintro e w14 ⟨rfl, b14⟩
  refine ⟨_, rfl, hK _ _ (cls ((Below.refl _ _).drew.trans (b14.mono (Nat.le_refl _)))) ?_⟩
  have Hb14 := Lib.hid b14
  clear hK K b14
  repeat (refine mix0 rfl (fun K hK => ?_); go_simp; refine hK _ ?_; clear hK K)
  refine mixEnd ?_
  go_wp2
  go_ret
  exact ⟨rfl, K13.out.below.trans ((Below.refl _ w13).drew.trans Hb14.out |>.mono K13.out.below.size)⟩
end Go.Proofs.Ytocnpjmhkgnomaa
