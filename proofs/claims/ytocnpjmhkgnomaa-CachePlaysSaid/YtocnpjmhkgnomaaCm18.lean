/- A cache as it lies in memory, and what its calls give, at this translation. -/
import Derived.Test.YtocnpjmhkgnomaaChecked
import Derived.Test.YtocnpjmhkgnomaaClose
import Derived.Test.YtocnpjmhkgnomaaMix
import Derived.Test.YtocnpjmhkgnomaaCa18
import Derived.Test.YtocnpjmhkgnomaaGs11
import Derived.Laws.StructEq
import Derived.Deep.DeepCutAuto
import Derived.Deep.QuietTactic
import Derived.BigQuiet
import Derived.Maps.RangeWalk
namespace Go.Proofs.Ytocnpjmhkgnomaa
open Go.RowKit Go.MapKept
open Go.WideElems (Fit rd rg pl rd_key rd_val rg_of rd_mk)

/-! ### the map's entries are the lines -/
def kInt : Value → Int
  | .int _ i => i
  | _ => 0
theorem mapL_ne {l : List Li} {k : Int} : mapL l k ≠ none ↔ k ∈ l.map (·.1) := by
  unfold mapL
  induction l with
  | nil => simp [look]
  | cons a l ih =>
    rw [look, List.map_cons, List.mem_cons]
    by_cases e : a.1 = k
    · simp [e]
    · rw [if_neg e, ih]
      constructor
      · exact .inr
      · rintro (h | h)
        · exact absurd h.symm e
        · exact h
theorem IsMap.exact {w : World} {b n : Nat} {l : List Li} (h : IsMap w b n (mapL l)) (hr : Rise l) : IsMap w b l.length (mapL l) ∧ ∃ es clock, w.heap[b]? = some (.map es clock) ∧ es.size = l.length := by
  obtain ⟨es, clock, h1, h2, h3, h4, h5⟩ := h
  have hst := (stamped_iff es clock).1 h2.stamped
  have hp : (es.toList.map fun x => kInt x.key).Perm (l.map (·.1)) := by
    refine (List.perm_ext_iff_of_nodup ?_ ?_).2 fun k => ?_
    · refine List.pairwise_map.2 (hst.2.2.imp_of_mem fun {x y} hx hy hne e => hne ?_)
      obtain ⟨i, _, hi, _⟩ := h4 x hx
      obtain ⟨j, _, hj, _⟩ := h4 y hy
      rw [hi, hj] at e ⊢
      exact congrArg _ e
    · exact List.pairwise_map.2 (hr.imp fun {a b} h => by omega)
    · rw [← mapL_ne, List.mem_map]
      constructor
      · rintro ⟨x, hx, rfl⟩
        obtain ⟨i, _, hi, hf⟩ := h4 x hx
        rw [hi]
        show mapL l i ≠ none
        rw [hf]
        simp
      · intro hk
        cases hf : mapL l k with
        | none => exact absurd hf hk
        | some v =>
          obtain ⟨x, hx, hxk, _⟩ := h5 k v hf
          exact ⟨x, hx, by rw [hxk]; rfl⟩
  have hs : es.size = l.length := by
    have := hp.length_eq
    simpa using this
  exact ⟨⟨es, clock, h1, h2, by omega, h4, h5⟩, es, clock, h1, hs⟩
/-- A cache in block b, its map in block m: what it knows. -/
structure Ca (w : World) (b : Nat) (m : Option Nat) (l : List Li) : Prop where
  rise : Rise l
  wf : ∀ x ∈ l, (Lit.int .i64 x.1).wf = true
  cell : w.cell? ⟨b, 0, none⟩ = some (.map m)
  fz : w.frozen? ⟨b, 0, none⟩ = false
  no : m = none → l = []
  map : ∀ g, m = some g → IsMap w g l.length (mapL l)
theorem Ca.lt {w : World} {b : Nat} {m : Option Nat} {l : List Li} (h : Ca w b m l) : b < w.heap.size := lt_of_cell h.cell
theorem Ca.ne {w : World} {b g : Nat} {m : Option Nat} {l : List Li} (h : Ca w b m l) (hg : m = some g) : g ≠ b ∧ g < w.heap.size := by
  have h1 := h.map g hg
  refine ⟨?_, h1.lt⟩
  rintro rfl
  obtain ⟨es, clock, h2, _⟩ := h1
  have := h.cell
  simp [World.cell?, h2] at this
theorem Ca.later {S : Nat → Prop} {w w' : World} {b : Nat} {m : Option Nat} {l : List Li} (h : Ca w b m l) (k : Mod S w w') (hb : ¬ S b) (hm : ∀ g, m = some g → ¬ S g) : Ca w' b m l :=
  ⟨h.rise, h.wf, (k.cell (p := ⟨b, 0, none⟩) h.lt hb).trans h.cell, (k.frozen (p := ⟨b, 0, none⟩) h.lt hb).trans h.fz, h.no, fun g hg => (h.map g hg).later k (hm g hg)⟩
theorem Ca.below {w w' : World} {b : Nat} {m : Option Nat} {l : List Li} (h : Ca w b m l) (k : Below w.heap.size w w') : Ca w' b m l := h.later (Mod.of_below (S := fun _ => False) k) id (fun _ _ => id)
/-- How a cache turns: its own blocks alone, or a new one. -/
structure CaTo (w w' : World) (b : Nat) (m m' : Option Nat) : Prop where
  mod : Mod (fun g => g = b ∨ m = some g) w w'
  new : m' = m ∨ (m = none ∧ ∃ g, m' = some g ∧ w.heap.size ≤ g)
theorem CaTo.refl (w : World) (b : Nat) (m : Option Nat) : CaTo w w b m m := ⟨Mod.refl _ _, .inl rfl⟩
theorem CaTo.ne {w w' : World} {b q : Nat} {m m' : Option Nat} (h : CaTo w w' b m m') (hm : ∀ g, m = some g → g ≠ q) (hq : q < w.heap.size) : ∀ g, m' = some g → g ≠ q := by
  intro g hg
  rcases h.new with e | ⟨_, g', e, hg'⟩
  · exact hm g (e ▸ hg)
  · rw [e] at hg
    obtain rfl := Option.some.inj hg
    omega
theorem CaTo.ge {w w' : World} {b B : Nat} {m m' : Option Nat} (h : CaTo w w' b m m') (hm : ∀ g, m = some g → B ≤ g) (hB : B ≤ w.heap.size) : ∀ g, m' = some g → B ≤ g := by
  intro g hg
  rcases h.new with e | ⟨_, g', e, hg'⟩
  · exact hm g (e ▸ hg)
  · rw [e] at hg
    obtain rfl := Option.some.inj hg
    omega
theorem CaTo.trans {w u v : World} {b : Nat} {m m' m'' : Option Nat} (h : CaTo w u b m m') (k : CaTo u v b m' m'') : CaTo w v b m m'' := by
  refine ⟨⟨k.mod.os.trans h.mod.os, k.mod.tape.trans h.mod.tape, k.mod.output.trans h.mod.output, Nat.le_trans h.mod.size k.mod.size, fun i hi hs => ?_⟩, ?_⟩
  · refine (k.mod.block i (Nat.lt_of_lt_of_le hi h.mod.size) ?_).trans (h.mod.block i hi hs)
    rintro (e | e)
    · exact hs (.inl e)
    · rcases h.new with e1 | ⟨_, g, e1, hg⟩
      · exact hs (.inr (e1 ▸ e))
      · rw [e1] at e
        obtain rfl := Option.some.inj e
        omega
  · rcases k.new with e | ⟨e, g, e1, hg⟩
    · rw [e]; exact h.new
    · rcases h.new with e2 | ⟨e2, g2, e3, hg2⟩
      · exact .inr ⟨e2 ▸ e, g, e1, Nat.le_trans h.mod.size hg⟩
      · rw [e3] at e
        cases e
theorem CaTo.step {w u v : World} {b : Nat} {m m' : Option Nat} (h : CaTo w u b m m') (k : Below u.heap.size u v) : CaTo w v b m m' :=
  ⟨h.mod.trans ((Mod.of_below (S := fun _ => False) k).mono fun _ _ h => h.elim), h.new⟩
theorem CaTo.after {w u v : World} {b : Nat} {m m' : Option Nat} (h : Below w.heap.size w u) (k : CaTo u v b m m') : CaTo w v b m m' :=
  ⟨((Mod.of_below (S := fun _ => False) h).mono fun _ _ h => h.elim).trans k.mod, k.new.imp id (fun ⟨a, g, e, hg⟩ => ⟨a, g, e, Nat.le_trans h.size hg⟩)⟩
theorem CaTo.below {w u v : World} {b B : Nat} {m m' : Option Nat} (h : Below B w u) (k : CaTo u v b m m') (hB : B ≤ u.heap.size) (hb : B ≤ b) (hm : ∀ g, m = some g → B ≤ g) : Below B w v :=
  k.mod.below h hB (by rintro i (rfl | e); exact hb; exact hm i e)

abbrev TM : TypeId := 52
theorem zeroKn (w : World) : (zeroValue 59).run Try.prog w = .ok (kv ([], false)) w := by kernel_rfl
def kvOf (l : List Li) (k : Int) : List UInt8 × Bool := (look l k).getD ([], false)
theorem Ca.look1 {w : World} {b : Nat} {m : Option Nat} {l : List Li} (h : Ca w b m l) {k : Int} (hk : (Lit.int .i64 k).wf = true) :
    (Instr.lookup TM (.map m) (.int .i64 k) false).run Try.prog w = .ok (kv (kvOf l k)) w := by
  cases m with
  | none =>
    rw [h.no rfl]
    have := Maps.look_nil (w := w) false keyI Try.underlying52 (zeroKn w) (keyI_mk hk)
    exact this
  | some g =>
    have := (h.map g rfl).look Try.underlying52 (zeroKn w) hk
    rw [this]
    unfold mapL kvOf
    cases look l k <;> rfl
theorem IsMap.lookOk {w : World} {b n : Nat} {f : Int → Option Value} (h : IsMap w b n f) {t e : TypeId} (ht : Try.prog.underlying t = some (.map 3 e)) {z : Value} (hz : (zeroValue e).run Try.prog w = .ok z w) {k : Int} (hk : (Lit.int .i64 k).wf = true) :
    (Instr.lookup t (.map (some b)) (.int .i64 k) true).run Try.prog w = .ok (.tuple #[(f k).getD z, .bool (f k).isSome]) w := by
  obtain ⟨es, clock, h1, h2, h3, h4, h5⟩ := h
  rcases Maps.fit_look true keyI ht hz h1 h2 (keyI_mk hk) with ⟨hrun, hno, _⟩ | ⟨e0, y, hm, hkey, hrun, _⟩
  · have : f k = none := by
      cases hf : f k with
      | none => rfl
      | some v =>
        obtain ⟨x, hx, hxk, _⟩ := h5 k v hf
        exact absurd hxk (hno x hx)
    rw [this]
    exact hrun
  · obtain ⟨i, _, hi, hf⟩ := h4 e0 hm
    rw [hkey] at hi
    have e1 := vint hi
    subst e1
    rw [hf]
    exact hrun
theorem Ca.look2 {w : World} {b : Nat} {m : Option Nat} {l : List Li} (h : Ca w b m l) {k : Int} (hk : (Lit.int .i64 k).wf = true) :
    (Instr.lookup TM (.map m) (.int .i64 k) true).run Try.prog w = .ok (.tuple #[kv (kvOf l k), .bool (look l k).isSome]) w := by
  cases m with
  | none =>
    rw [h.no rfl]
    have := Maps.look_nil (w := w) true keyI Try.underlying52 (zeroKn w) (keyI_mk hk)
    exact this
  | some g =>
    have := (h.map g rfl).lookOk Try.underlying52 (zeroKn w) hk
    rw [this]
    unfold mapL kvOf
    cases look l k <;> rfl
theorem Ca.len {w : World} {b : Nat} {m : Option Nat} {l : List Li} (h : Ca w b m l) (ty : TypeId) :
    (Builtin.len_ #[TM] ty #[.map m]).run Try.prog w = .ok (.int .i64 (l.length : Int)) w := by
  cases m with
  | none => rw [h.no rfl]; exact Maps.len_nil Try.underlying52 ty
  | some g =>
    obtain ⟨_, es, clock, hb, hs⟩ := (h.map g rfl).exact h.rise
    rw [← hs]
    simp [Builtin.len_, run_underlying Try.underlying52, MapKept.run_getObj_map hb, goInt, Result.andThen]
theorem New_any (w : World) :
    Calls Try.prog 9 #[] w fun e w' => ∃ b, e = .returned (.pointer (some ⟨b, 0, none⟩)) ∧ Ca w' b none [] ∧ w.heap.size ≤ b ∧ Below w.heap.size w w' := by
  go_enter Try.func9, Try.ntmps9
  go_wp2
  go_ret
  refine ⟨_, rfl, ⟨rise_nil, by simp, by simp [go_sem], by simp [go_sem], fun _ => rfl, by simp⟩, Nat.le_refl _, balloc (Below.refl _ _) _⟩
set_option maxHeartbeats 1000000 in
theorem Get_any {w : World} {b : Nat} {m : Option Nat} {l : List Li} (h : Ca w b m l) (k : Int) (hk : (Lit.int .i64 k).wf = true) :
    Calls Try.prog 23 #[.pointer (some ⟨b, 0, none⟩), .int .i64 k] w fun e w' => e = .returned (.tuple #[.string (str (kvOf l k).1), .bool (look l k).isSome]) ∧ Below w.heap.size w w' := by
  have hc := h.cell
  have hl := h.look2 hk
  obtain ⟨x, Hx⟩ : ∃ x, Hid (kvOf l k = x) := ⟨_, Lib.hid rfl⟩
  obtain ⟨t, Ht⟩ : ∃ t, Hid ((look l k).isSome = t) := ⟨_, Lib.hid rfl⟩
  rw [Hx.out, Ht.out] at hl ⊢
  have hkv : kv x = .agg #[.string (str x.1), .bool x.2] := rfl
  rw [hkv] at hl
  clear h
  go_enter Try.func23, Try.ntmps23
  go_wp2
  go_ret2
  exact ⟨rfl, balloc (Below.refl _ _) _⟩
theorem Get_nil (w : World) (k : Int) :
    Calls Try.prog 23 #[.pointer none, .int .i64 k] w fun e w' => e = .returned (.tuple #[.string (str []), .bool false]) ∧ Below w.heap.size w w' := by
  go_enter Try.func23, Try.ntmps23
  go_wp2
  go_ret2
  exact ⟨rfl, Below.refl _ _⟩
theorem CLen_any {w : World} {b : Nat} {m : Option Nat} {l : List Li} (h : Ca w b m l) :
    Calls Try.prog 22 #[.pointer (some ⟨b, 0, none⟩)] w fun e w' => e = .returned (.int .i64 (l.length : Int)) ∧ w = w' := by
  have hc := h.cell
  have hl := h.len
  clear h
  go_enter Try.func22, Try.ntmps22
  go_wp2
  go_ret
  exact ⟨rfl, rfl⟩
theorem CLen_nil (w : World) :
    Calls Try.prog 22 #[.pointer none] w fun e w' => e = .returned (.int .i64 0) ∧ w = w' := by
  go_enter Try.func22, Try.ntmps22
  go_wp2
  go_ret
  exact ⟨rfl, rfl⟩
/-- A store into the map. -/
theorem Ca.store {w : World} {b g : Nat} {l : List Li} (h : Ca w b (some g) l) (k : Int) (hk : (Lit.int .i64 k).wf = true) (v : List UInt8 × Bool) (hn : l.length < maxLen) :
    ∃ w', (Instr.mapUpdate TM (.map (some g)) (.int .i64 k) (kv v)).run Try.prog w = .ok () w' ∧ Ca w' b (some g) (setL l (k, v)) ∧ Mod (· = g) w w' := by
  obtain ⟨w', hrun, h1, h2, _⟩ := (h.map g rfl).store Try.underlying52 hn hk (kv v)
  have hne := (h.ne rfl).1
  rw [show put (mapL l) k (some (kv v)) = mapL (setL l (k, v)) from mapL_set h.rise (k, v)] at h1
  refine ⟨w', hrun, ⟨h.rise.set _, fun x hx => ?_, (h2.cell (p := ⟨b, 0, none⟩) h.lt (fun e => hne e.symm)).trans h.cell, (h2.frozen (p := ⟨b, 0, none⟩) h.lt (fun e => hne e.symm)).trans h.fz, (fun e => by cases e), fun g' hg' => ?_⟩, h2⟩
  · rcases mem_setL hx with rfl | hx
    · exact hk
    · exact h.wf x hx
  · obtain rfl := Option.some.inj hg'
    exact (h1.exact (h.rise.set _)).1
theorem eqM : ∀ (w : World) (r : Option Nat), (binOp .eql TM (.map r) (.map none)).run Try.prog w = .ok (.bool r.isNone) w := fun w r => run_eql_map_nil w _ _ _ r Try.underlying52
theorem below_to {w W : World} (h : Below w.heap.size w W) {b : Nat} {m : Option Nat} : Mod (fun g => g = b ∨ m = some g) w W := (Mod.of_below (S := fun _ => False) h).mono fun _ _ h => h.elim
set_option maxHeartbeats 1000000 in
theorem set_any {w : World} {b : Nat} {m : Option Nat} {l : List Li} (h : Ca w b m l) (k : Int) (hk : (Lit.int .i64 k).wf = true) (v : List UInt8 × Bool) (hn : l.length < maxLen) :
    Calls Try.prog 26 #[.pointer (some ⟨b, 0, none⟩), .int .i64 k, .agg #[.string (str v.1), .bool v.2]] w fun e w' => e = .returned (.tuple #[]) ∧ ∃ m', Ca w' b m' (setL l (k, v)) ∧ CaTo w w' b m m' := by
  cases m with
  | some g =>
    have hc := h.cell
    have hlt := h.lt
    have q30 := eqM
    obtain ⟨W, HW⟩ : ∃ W, Hid (w.alloc (.cells #[.string (str v.1), .bool v.2] 59) = W) := ⟨_, Lib.hid rfl⟩
    obtain ⟨p, Hp⟩ : ∃ p, Hid (w.heap.size = p) := ⟨_, Lib.hid rfl⟩
    have C : Hid (Ca W b (some g) l) := Lib.hid (by rw [← HW.out]; exact h.below (balloc (Below.refl _ _) _))
    have hb : Hid (Below w.heap.size w W) := Lib.hid (by rw [← HW.out]; exact balloc (Below.refl _ _) _)
    have hc' := C.out.cell
    have k0 : W.cell? ⟨p, 0, none⟩ = some (.string (str v.1)) := by rw [← HW.out, ← Hp.out]; simp [go_sem]
    have k1 : W.cell? ⟨p, 1, none⟩ = some (.bool v.2) := by rw [← HW.out, ← Hp.out]; simp [go_sem]
    clear h
    go_enter Try.func26, Try.ntmps26
    go_wp2_with fail
    rw [HW.out, Hp.out]
    refine wp_region_mix (by kernel_rfl) (Cls (Abv W)) [(0, 0), (1, 0), (2, 0), (3, 0), (4, 0), (5, 0), (6, 2)] (by kernel_rfl) (cls (Below.refl _ _).drew) ?_
    have q0 : ∀ y : In (Abv W), y.u.cell? ⟨b, 0, none⟩ = some (.map (some g)) := fun y => (y.is.cell (p := ⟨b, 0, none⟩) C.out.lt).trans hc'
    have q1 : ∀ y : In (Abv W), y.u.cell? ⟨p, 0, none⟩ = some (.string (str v.1)) := fun y => (y.is.cell (p := ⟨p, 0, none⟩) (lt_of_cell k0)).trans k0
    have q2 : ∀ y : In (Abv W), y.u.cell? ⟨p, 1, none⟩ = some (.bool v.2) := fun y => (y.is.cell (p := ⟨p, 1, none⟩) (lt_of_cell k0)).trans k1
    repeat (refine mix0 rfl (fun K hK => ?_); go_simp; refine hK _ ?_; clear hK K)
    obtain ⟨w', hrun, h1, h2⟩ := (C.out.below (Below.refl _ _).drew).store k hk v hn
    have hrun' : (Instr.mapUpdate TM (.map (some g)) (.int .i64 k) (.agg #[.string (str v.1), .bool v.2])).run Try.prog W.drew = .ok () w' := hrun
    refine mix2 rfl (fun K hK => ?_)
    go_simp
    refine hK _ _ ?_
    clear hK K
    refine mixEnd ?_
    go_wp2
    exact bodyPost_end (results_none rfl _ _ _) rfl ⟨rfl, some g, h1, ⟨((below_to hb.out).trans (below_to (Below.refl _ W).drew)).trans (h2.mono fun _ _ e => .inr (by rw [e])), .inl rfl⟩⟩
  | none =>
    have e0 : l = [] := h.no rfl
    subst e0
    have hc := h.cell
    have hfz := h.fz
    have hlt := h.lt
    have q30 := eqM
    have hmm := @run_makeMap Try.prog
    obtain ⟨W, HW⟩ : ∃ W, Hid ((((w.setCell ⟨b, 0, none⟩ (.map (some (w.heap.size + 1)))).alloc (.cells #[.string (str v.1), .bool v.2] 59)).alloc (.map #[] 0)) = W) := ⟨_, Lib.hid rfl⟩
    obtain ⟨p, Hp⟩ : ∃ p, Hid (w.heap.size = p) := ⟨_, Lib.hid rfl⟩
    have hu : Hid (w.heap.size = (w.setCell ⟨b, 0, none⟩ (.map (some (w.heap.size + 1)))).heap.size) := Lib.hid (by simp [World.setCell])
    have k0 : W.cell? ⟨p, 0, none⟩ = some (.string (str v.1)) := by rw [← HW.out, ← Hp.out]; simp [go_sem]
    have k1 : W.cell? ⟨p, 1, none⟩ = some (.bool v.2) := by rw [← HW.out, ← Hp.out]; simp [go_sem]
    have C : Hid (Ca W b (some (p + 1)) []) := Lib.hid (by
      rw [← HW.out, ← Hp.out]
      have c1 : (w.setCell ⟨b, 0, none⟩ (.map (some (w.heap.size + 1)))).cell? ⟨b, 0, none⟩ = some (.map (some (w.heap.size + 1))) := set_same hc
      have c2 : (w.setCell ⟨b, 0, none⟩ (.map (some (w.heap.size + 1)))).frozen? ⟨b, 0, none⟩ = false := set_frozen hfz
      obtain ⟨u, Hu⟩ : ∃ u, Hid (w.setCell ⟨b, 0, none⟩ (.map (some (w.heap.size + 1))) = u) := ⟨_, Lib.hid rfl⟩
      have hlt' : b < u.heap.size := by rw [← Hu.out, ← hu.out]; exact hlt
      have hus : u.heap.size = w.heap.size := by rw [← Hu.out, ← hu.out]
      rw [Hu.out] at c1 c2 ⊢
      have hb2 := balloc (balloc (Below.refl u.heap.size u) (.cells #[.string (str v.1), .bool v.2] 59)) (.map #[] 0)
      refine ⟨rise_nil, by simp, (hb2.cell (p := ⟨b, 0, none⟩) hlt').trans c1, (hb2.frozen (p := ⟨b, 0, none⟩) hlt').trans c2, (fun e => by cases e), fun g hg => ?_⟩
      obtain rfl := Option.some.inj hg
      have hm := IsMap.made (u.alloc (.cells #[.string (str v.1), .bool v.2] 59))
      rw [show (u.alloc (.cells #[.string (str v.1), .bool v.2] 59)).heap.size = w.heap.size + 1 by simp [hus]] at hm
      exact hm)
    have hM : Hid (Mod (fun g => g = b ∨ (none : Option Nat) = some g) w W) := Lib.hid (by
      rw [← HW.out]
      exact ((Mod.setCell (S := fun g => g = b ∨ (none : Option Nat) = some g) (Mod.refl _ w) (p := ⟨b, 0, none⟩) (.inl (.inl rfl)) _).alloc _).alloc _)
    have hc' := C.out.cell
    clear h
    go_enter Try.func26, Try.ntmps26
    go_wp2_with fail
    rw [HW.out, Hp.out]
    refine wp_region_mix (by kernel_rfl) (Cls (Abv W)) [(0, 0), (1, 0), (2, 0), (3, 0), (4, 0), (5, 0), (6, 2)] (by kernel_rfl) (cls (Below.refl _ _).drew) ?_
    have q0 : ∀ y : In (Abv W), y.u.cell? ⟨b, 0, none⟩ = some (.map (some (p + 1))) := fun y => (y.is.cell (p := ⟨b, 0, none⟩) C.out.lt).trans hc'
    have q1 : ∀ y : In (Abv W), y.u.cell? ⟨p, 0, none⟩ = some (.string (str v.1)) := fun y => (y.is.cell (p := ⟨p, 0, none⟩) (lt_of_cell k0)).trans k0
    have q2 : ∀ y : In (Abv W), y.u.cell? ⟨p, 1, none⟩ = some (.bool v.2) := fun y => (y.is.cell (p := ⟨p, 1, none⟩) (lt_of_cell k0)).trans k1
    repeat (refine mix0 rfl (fun K hK => ?_); go_simp; refine hK _ ?_; clear hK K)
    obtain ⟨w', hrun, h1, h2⟩ := (C.out.below (Below.refl _ _).drew).store k hk v hn
    have hrun' : (Instr.mapUpdate TM (.map (some (p + 1))) (.int .i64 k) (.agg #[.string (str v.1), .bool v.2])).run Try.prog W.drew = .ok () w' := hrun
    refine mix2 rfl (fun K hK => ?_)
    go_simp
    refine hK _ _ ?_
    clear hK K
    refine mixEnd ?_
    go_wp2
    refine bodyPost_end (results_none rfl _ _ _) rfl ⟨rfl, some (p + 1), h1, ⟨?_, .inr ⟨rfl, p + 1, rfl, by rw [Hp.out]; omega⟩⟩⟩
    have hm2 : Mod (fun g => g = b ∨ g = p + 1) w w' := ((hM.out.mono fun _ _ e => e.elim .inl (fun e => by cases e)).trans ((Mod.refl _ W).drew)).trans (h2.mono fun _ _ e => .inr e)
    exact hm2.mono fun g hg e => e.elim .inl (fun e => by rw [Hp.out] at hg; omega)

set_option maxHeartbeats 1000000 in
theorem Load_any {w : World} {b : Nat} {m : Option Nat} {l : List Li} (h : Ca w b m l) (k : Int) (hk : (Lit.int .i64 k).wf = true) (s : List UInt8) (hn : l.length < maxLen) :
    Calls Try.prog 11 #[.pointer (some ⟨b, 0, none⟩), .int .i64 k, .string (str s)] w fun e w' => e = .returned (.bool (look l k).isNone) ∧ ∃ m', Ca w' b m' (loadL l k s) ∧ CaTo w w' b m m' := by
  have H := Lib.hid h
  cases hq : look l k with
  | some v =>
    have Hq := Lib.hid hq
    clear h hq
    go_enter Try.func11, Try.ntmps11
    go_wp2_with fail
    refine (Get_any H.out k hk).mono ?_
    rw [Hq.out]
    rintro e w1 ⟨rfl, hb⟩
    have Hb := Lib.hid hb
    clear hb
    go_wp2
    go_ret
    refine ⟨rfl, m, ?_, (CaTo.refl w b m).step Hb.out⟩
    rw [loadL, if_neg (by rw [Hq.out]; simp)]
    exact H.out.below Hb.out
  | none =>
    have Hq := Lib.hid hq
    clear h hq
    go_enter Try.func11, Try.ntmps11
    go_wp2_with fail
    refine (Get_any H.out k hk).mono ?_
    rw [Hq.out]
    rintro e w1 ⟨rfl, hb⟩
    have Hb := Lib.hid hb
    clear hb
    go_wp2_with fail
    refine (set_any (H.out.below Hb.out) k hk (s, false) hn).mono ?_
    rintro e w2 ⟨rfl, m', h2, t2⟩
    have H2 := Lib.hid (And.intro h2 t2)
    clear h2 t2
    go_wp2
    go_ret
    refine ⟨rfl, m', ?_, CaTo.after Hb.out H2.out.2⟩
    rw [loadL, if_pos Hq.out]
    exact H2.out.1
theorem Load_nil (w : World) (k : Int) (s : List UInt8) :
    Calls Try.prog 11 #[.pointer none, .int .i64 k, .string (str s)] w fun e w' => e = .returned (.bool false) ∧ Below w.heap.size w w' := by
  go_enter Try.func11, Try.ntmps11
  go_wp2_with fail
  refine (Get_nil _ k).mono ?_
  rintro e w1 ⟨rfl, hb⟩
  have Hb := Lib.hid hb
  clear hb
  go_wp2
  go_ret
  exact ⟨rfl, Hb.out⟩
/-- A list of changes lies apart from a cache. -/
def Aside (A : Option Addr) (n b : Nat) (m : Option Nat) : Prop := ∀ g off, A = some ⟨g, off, none⟩ → 0 < n → g ≠ b ∧ m ≠ some g
theorem Aside.to {w w' : World} {A : Option Addr} {n b : Nat} {m m' : Option Nat} {l : List Ch} (h : Aside A n b m) (k : CaTo w w' b m m') (hg : IsG w 2 encC A n l) : Aside A n b m' := by
  intro g off e h0
  obtain ⟨h1, h2⟩ := h g off e h0
  refine ⟨h1, fun e2 => ?_⟩
  obtain ⟨g', off', e3, hlt, _⟩ := hg.cells h0
  rw [e] at e3
  injection e3 with e3
  injection e3 with e3
  exact k.ne (q := g) (fun x hx e4 => h2 (e4 ▸ hx)) (by omega) g e2 rfl
theorem IsG.to {w w' : World} {A : Option Addr} {n b : Nat} {m m' : Option Nat} {l : List Ch} (hg : IsG w 2 encC A n l) (h : Aside A n b m) (k : CaTo w w' b m m') : IsG w' 2 encC A n l :=
  hg.later k.mod fun g off e h0 hs => hs.elim (h g off e h0).1 (h g off e h0).2
set_option maxHeartbeats 1000000 in
theorem Put_any {w : World} {b : Nat} {m : Option Nat} {l : List Li} (h : Ca w b m l) (A : Option Addr) (n c : Nat) (cs : List Ch) (hg : IsG w 2 encC A n cs) (ha : Aside A n b m) (hwf : ∀ x ∈ cs, (Lit.int .i64 x.1).wf = true) (hn : l.length + n < maxLen) :
    Calls Try.prog 18 #[.pointer (some ⟨b, 0, none⟩), .slice A n c] w fun e w' => e = .returned (.tuple #[]) ∧ ∃ m', Ca w' b m' (putL l cs) ∧ CaTo w w' b m m' := by
  have H := Lib.hid h
  have HG := Lib.hid hg
  have HA := Lib.hid ha
  have Hl := Lib.hid hg.length
  have hsm := hg.small
  clear h hg ha
  go_enter Try.func18, Try.ntmps18
  go_wp2_with fail
  go_loopw [10] (fun i wr => ∃ j : Nat, j ≤ n ∧ i = .int .i64 j ∧ ∃ m', Hid (Ca wr b m' (putL l (cs.take j)) ∧ CaTo w wr b m m')) (fun i _ => n - (intOf i).toNat)
  case atStart => exact ⟨0, Nat.zero_le _, rfl, m, Lib.hid ⟨H.out, CaTo.refl _ _ _⟩⟩
  case round =>
    obtain ⟨j, hj, rfl, m', HC⟩ := hrel
    by_cases hlt : j < n
    · have hx : cs[j]? = some (cs[j]'(by have := Hl.out; omega)) := List.getElem?_eq_getElem _
      obtain ⟨x, Hx⟩ : ∃ x, Hid (cs[j]'(by have := Hl.out; omega) = x) := ⟨_, Lib.hid rfl⟩
      rw [Hx.out] at hx
      have hG := HG.out.to HA.out HC.out.2
      obtain ⟨g, off, rfl, hgl, hc⟩ := hG.cells (by omega)
      have c0 := hc j x 0 _ hx rfl
      have c1 := hc j x 1 _ hx rfl
      rw [Nat.add_zero] at c0
      have wf := hwf x (List.mem_of_getElem? hx)
      have Hxx := Lib.hid hx
      obtain ⟨W, HW⟩ : ∃ W, Hid (wr.alloc (.cells #[.int .i64 x.1, .string (str x.2)] 36) = W) := ⟨_, Lib.hid rfl⟩
      clear hx hG hc
      go_wp2_with fail
      rw [HW.out]
      have hb : Below wr.heap.size wr W := by rw [← HW.out]; exact balloc (Below.refl _ _) _
      have hlen := putL_length l (cs.take j)
      rw [List.length_take] at hlen
      refine (set_any (HC.out.1.below hb) x.1 wf (x.2, true) (by omega)).mono ?_
      rintro e w2 ⟨rfl, m2, h2, t2⟩
      have HC2 : Hid (Ca w2 b m2 (putL l (cs.take (j + 1))) ∧ CaTo w w2 b m m2) := Lib.hid (by
        refine ⟨?_, HC.out.2.trans (CaTo.after hb t2)⟩
        obtain ⟨hjl, ej⟩ := List.getElem?_eq_some_iff.1 Hxx.out
        rw [List.take_succ_eq_append_getElem hjl, ej, putL_snoc]
        exact h2)
      clear hb h2 t2
      go_wp2
      go_roundw
      case rel => exact ⟨j + 1, by omega, by go_num, m2, HC2⟩
      case measure => simp [intOf]; omega
    · obtain rfl : j = n := by omega
      go_wp2
      have e : cs.take j = cs := List.take_of_length_le (by have := Hl.out; omega)
      have hC := HC.out
      rw [e] at hC
      exact bodyPost_end (results_none rfl _ _ _) rfl ⟨rfl, m', hC.1, hC.2⟩
theorem Put_nil (w : World) (v : Value) :
    Calls Try.prog 18 #[.pointer none, v] w fun e w' => e = .returned (.tuple #[]) ∧ w = w' := by
  go_enter Try.func18, Try.ntmps18
  go_wp2
  exact bodyPost_ret (results_none rfl _ _ _) rfl ⟨rfl, rfl⟩

theorem isIt_iff (l : List Li) (c : Ch) : (decide ((kvOf l c.1).1 = c.2) && ((kvOf l c.1).2 == true)) = isIt l c := by
  unfold isIt kvOf
  cases look l c.1 with
  | none => simp
  | some v =>
    obtain ⟨v1, v2⟩ := v
    cases v2 <;> simp
set_option maxHeartbeats 1000000 in
theorem Clean_any {w : World} {b : Nat} {m : Option Nat} {l : List Li} (h : Ca w b m l) (A : Option Addr) (n c : Nat) (cs : List Ch) (hg : IsG w 2 encC A n cs) (ha : Aside A n b m) (hwf : ∀ x ∈ cs, (Lit.int .i64 x.1).wf = true) (hn : l.length < maxLen) :
    Calls Try.prog 14 #[.pointer (some ⟨b, 0, none⟩), .slice A n c] w fun e w' => e = .returned (.int .i64 (cleanN l cs : Int)) ∧ ∃ m', Ca w' b m' (cleanL l cs) ∧ CaTo w w' b m m' := by
  have H := Lib.hid h
  have HG := Lib.hid hg
  have HA := Lib.hid ha
  have Hl := Lib.hid hg.length
  have hsm := hg.small
  have Hr := Lib.hid h.rise
  clear h hg ha
  go_enter Try.func14, Try.ntmps14
  go_wp2_with fail
  go_loopw [5, 12] (fun q i wr => ∃ j N : Nat, j ≤ n ∧ i = .int .i64 j ∧ q = .int .i64 (N : Int) ∧ N ≤ j ∧ Hid (N = cleanN l (cs.take j)) ∧ ∃ m', Hid (Ca wr b m' (cleanL l (cs.take j)) ∧ CaTo w wr b m m')) (fun _ i _ => n - (intOf i).toNat)
  case atStart => exact ⟨0, 0, Nat.zero_le _, rfl, rfl, Nat.le_refl _, Lib.hid rfl, m, Lib.hid ⟨H.out, CaTo.refl _ _ _⟩⟩
  case round =>
    obtain ⟨j, N, hj, rfl, rfl, hNj, HN, m', HC⟩ := hrel
    by_cases hlt : j < n
    · have hx : cs[j]? = some (cs[j]'(by have := Hl.out; omega)) := List.getElem?_eq_getElem _
      obtain ⟨x, Hx⟩ : ∃ x, Hid (cs[j]'(by have := Hl.out; omega) = x) := ⟨_, Lib.hid rfl⟩
      rw [Hx.out] at hx
      have hG := HG.out.to HA.out HC.out.2
      obtain ⟨g, off, rfl, hgl, hc⟩ := hG.cells (by omega)
      have c0 := hc j x 0 _ hx rfl
      have c1 := hc j x 1 _ hx rfl
      rw [Nat.add_zero] at c0
      have wf := hwf x (List.mem_of_getElem? hx)
      have Hxx := Lib.hid hx
      have Hsn : Hid (cs.take (j + 1) = cs.take j ++ [x]) := Lib.hid (by
        obtain ⟨hjl, ej⟩ := List.getElem?_eq_some_iff.1 Hxx.out
        rw [List.take_succ_eq_append_getElem hjl, ej])
      obtain ⟨W, HW⟩ : ∃ W, Hid (wr.alloc (.cells #[.int .i64 x.1, .string (str x.2)] 36) = W) := ⟨_, Lib.hid rfl⟩
      obtain ⟨p, Hp⟩ : ∃ p, Hid (wr.heap.size = p) := ⟨_, Lib.hid rfl⟩
      clear hx hG hc
      obtain ⟨M, HM⟩ : ∃ M, Hid (cleanL l (cs.take j) = M) := ⟨_, Lib.hid rfl⟩
      rw [HM.out] at HC
      have hb : Hid (Below wr.heap.size wr W) := Lib.hid (by rw [← HW.out]; exact balloc (Below.refl _ _) _)
      have CW : Hid (Ca W b m' M) := Lib.hid (HC.out.1.below hb.out)
      have k0 : W.cell? ⟨p, 0, none⟩ = some (.int .i64 x.1) := by rw [← HW.out, ← Hp.out]; simp [go_sem]
      have k1 : W.cell? ⟨p, 1, none⟩ = some (.string (str x.2)) := by rw [← HW.out, ← Hp.out]; simp [go_sem]
      have hlen : Hid (M.length < maxLen) := Lib.hid (by rw [← HM.out, cleanL_length Hr.out]; exact hn)
      go_wp2_with fail
      rw [HW.out, Hp.out]
      refine wp_region_mix (by kernel_rfl) (Cls (Abv W)) [(0, 0), (1, 0), (2, 0), (3, 0), (4, 0), (5, 0), (6, 0), (7, 0), (8, 0), (9, 0), (10, 0)] (by kernel_rfl) (cls (Below.refl _ _).drew) ?_
      have q0 : ∀ y : In (Abv W), y.u.cell? ⟨b, 0, none⟩ = some (.map m') := fun y => (y.is.cell (p := ⟨b, 0, none⟩) CW.out.lt).trans CW.out.cell
      have q1 : ∀ y : In (Abv W), y.u.cell? ⟨p, 0, none⟩ = some (.int .i64 x.1) := fun y => (y.is.cell (p := ⟨p, 0, none⟩) (lt_of_cell k0)).trans k0
      have q2 : ∀ y : In (Abv W), y.u.cell? ⟨p, 1, none⟩ = some (.string (str x.2)) := fun y => (y.is.cell (p := ⟨p, 1, none⟩) (lt_of_cell k0)).trans k1
      have q3 : ∀ y : In (Abv W), (Instr.lookup TM (.map m') (.int .i64 x.1) false).run Try.prog y.u = .ok (.agg #[.string (str (kvOf M x.1).1), .bool (kvOf M x.1).2]) y.u := fun y => (CW.out.below y.is).look1 wf
      obtain ⟨t, Ht⟩ : ∃ t, Hid (isIt M x = t) := ⟨_, Lib.hid rfl⟩
      repeat (refine mix0 rfl (fun K hK => ?_); go_simp; refine hK _ ?_; clear hK K)
      refine mix0 rfl (fun K hK => ?_)
      go_simp
      refine ⟨.bool t, fun y => ?_, hK _ ?_⟩
      · rw [← Ht.out, ← isIt_iff]
        by_cases e1 : (kvOf M x.1).1 = x.2 <;> cases e2 : (kvOf M x.1).2 <;> simp [e1]
      clear hK K
      refine mixEnd ?_
      obtain ⟨W2, HW2⟩ : ∃ x, Hid (W.drew = x) := ⟨_, Lib.hid rfl⟩
      have CW2 : Hid (Ca W2 b m' M) := Lib.hid (by rw [← HW2.out]; exact CW.out.below (Below.refl _ _).drew)
      have k02 : W2.cell? ⟨p, 0, none⟩ = some (.int .i64 x.1) := by rw [← HW2.out]; exact k0
      have k12 : W2.cell? ⟨p, 1, none⟩ = some (.string (str x.2)) := by rw [← HW2.out]; exact k1
      have hb2 : Hid (Below wr.heap.size wr W2) := Lib.hid (by rw [← HW2.out]; exact hb.out.drew)
      rw [HW2.out]
      clear q0 q1 q2 q3 k0 k1
      cases t
      · have HE : Hid (cleanL l (cs.take (j + 1)) = M ∧ cleanN l (cs.take (j + 1)) = N) := Lib.hid (by
          rw [Hsn.out, cleanL_snoc, cleanN_snoc, HM.out, clean1, Ht.out]
          exact ⟨rfl, by rw [HN.out]; simp⟩)
        go_wp2
        go_roundw
        case rel => exact ⟨j + 1, N, by omega, by go_num, rfl, by omega, Lib.hid HE.out.2.symm, m', Lib.hid (by rw [HE.out.1]; exact ⟨CW2.out, HC.out.2.step hb2.out⟩)⟩
        case measure => simp [intOf]; omega
      · have HE : Hid (cleanL l (cs.take (j + 1)) = setL M (x.1, x.2, false) ∧ cleanN l (cs.take (j + 1)) = N + 1) := Lib.hid (by
          rw [Hsn.out, cleanL_snoc, cleanN_snoc, HM.out, clean1, Ht.out]
          exact ⟨rfl, by rw [HN.out]; simp⟩)
        go_wp2_with fail
        refine (set_any CW2.out x.1 wf (x.2, false) hlen.out).mono ?_
        rintro e w3 ⟨rfl, m3, h3, t3⟩
        have H3 := Lib.hid (And.intro h3 t3)
        clear h3 t3
        go_wp2
        go_roundw
        case rel => exact ⟨j + 1, N + 1, by omega, by go_num, by go_num, by omega, Lib.hid HE.out.2.symm, m3, Lib.hid (by rw [HE.out.1]; exact ⟨H3.out.1, (HC.out.2.step hb2.out).trans H3.out.2⟩)⟩
        case measure => simp [intOf]; omega
    · obtain rfl : j = n := by omega
      go_wp2
      have e : cs.take j = cs := List.take_of_length_le (by have := Hl.out; omega)
      have hC := HC.out
      have hN := HN.out
      rw [e] at hC hN
      subst hN
      go_ret
      exact ⟨rfl, m', hC.1, hC.2⟩
theorem Clean_nil (w : World) (v : Value) :
    Calls Try.prog 14 #[.pointer none, v] w fun e w' => e = .returned (.int .i64 0) ∧ w = w' := by
  go_enter Try.func14, Try.ntmps14
  go_wp2
  go_ret
  exact ⟨rfl, rfl⟩
end Go.Proofs.Ytocnpjmhkgnomaa
