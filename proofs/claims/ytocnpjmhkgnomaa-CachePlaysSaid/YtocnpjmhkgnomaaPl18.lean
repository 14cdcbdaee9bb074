/- Both caches side by side; calls that came in; two rows that are the same, at this translation. -/
import Derived.Test.YtocnpjmhkgnomaaRh18
namespace Go.Proofs.Ytocnpjmhkgnomaa
open Go.RowKit Go.ChangeShapes Go.WideShapes Go.ChangeAt Go.Deep Go.MapKept

theorem chNeq (x : Int) (l : List UInt8) (w : World) : (binOp .neq 36 (.agg #[.int .i64 x, .string (str l)]) (.agg #[.int .i64 x, .string (str l)])).run Try.prog w = .ok (.bool false) w := by
  have hu : Try.prog.underlying 36 = some (.struct (Try.prog.fieldsOf 36)) := by kernel_rfl
  have hp : Try.prog.stoodInHeld 36 = false := by kernel_rfl
  rw [run_neq_struct, run_equalIn_agg _ _ _ _ _ hu hp]
  simp [Program.fieldsOf, Try.underlying36, Try.underlying3, Try.underlying9, go_sem, part]
set_option maxRecDepth 100000 in
set_option maxHeartbeats 1000000 in
theorem xSame_any (A B : Option Addr) (n c m d : Nat) (l : List Ch) (w : World) (h : IsG w 2 encC A n l) (k : IsG w 2 encC B m l) :
    Calls Try.prog 20 #[.slice A n c, .slice B m d] w fun e w' => e = .returned (.bool true) ∧ Below w.heap.size w w' := by
  obtain rfl : n = m := h.length.symm.trans k.length
  have Hh := Lib.hid h
  have Hk := Lib.hid k
  have hm := h.small
  have hb : ((n : Int) != (n : Int)) = false := by simp
  clear h k
  go_enter Try.func20, Try.ntmps20
  go_wp2
  go_loopw [5] (fun i wr => ∃ j : Nat, i = .int .i64 (j : Int) ∧ j ≤ n ∧ Hid (Below w.heap.size w wr)) (fun i _ => n - (intOf i).toNat)
  case atStart => exact ⟨0, rfl, Nat.zero_le _, Lib.hid (Below.refl _ _)⟩
  case round =>
    obtain ⟨j, rfl, hj, HB⟩ := hrel
    by_cases hlt : j < n
    · obtain ⟨g, off, rfl, hg, hc⟩ := (Hh.out.below HB.out).cells (by omega)
      obtain ⟨g2, off2, rfl, hg2, hc2⟩ := (Hk.out.below HB.out).cells (by omega)
      obtain ⟨x, hx⟩ : ∃ x, l[j]? = some x := ⟨_, List.getElem?_eq_getElem (by have := Hh.out.length; omega)⟩
      have a0 := hc j x 0 (.int .i64 x.1) hx rfl
      have a1 := hc j x 1 (.string (str x.2)) hx rfl
      have b0 := hc2 j x 0 (.int .i64 x.1) hx rfl
      have b1 := hc2 j x 1 (.string (str x.2)) hx rfl
      rw [Nat.add_zero] at a0 b0
      have hne := chNeq x.1 x.2
      have hjn : (j : Int) < (n : Int) := by omega
      clear hc hc2 hx
      go_wp2
      go_region
      clear hne
      go_wp2
      go_roundw
      case rel => exact ⟨j + 1, by go_num, by omega, Lib.hid HB.out.drew⟩
      case measure => simp [intOf]; omega
    · obtain rfl : j = n := by omega
      have hjn : ¬ (j : Int) < (j : Int) := by omega
      go_wp2
      go_ret
      exact ⟨rfl, HB.out⟩

/-- Both caches, each in blocks of its own. -/
structure Ws (w u : World) (b : Nat) (m : Option Nat) (rb : Nat) (v : Value) (L1 L2 : List Li) : Prop where
  kc : KC w u b m L1
  rc : Rc u rb v L2
  lr : w.heap.size ≤ rb
  ln : ∀ g, blk v = some g → w.heap.size ≤ g
  n1 : rb ≠ b
  n2 : m ≠ some rb
  n3 : blk v ≠ some b
  n4 : ∀ g, m = some g → blk v ≠ some g
theorem Ws.later {w u x : World} {b rb : Nat} {m : Option Nat} {v : Value} {L1 L2 : List Li} (h : Ws w u b m rb v L1 L2) (k : Below u.heap.size u x) : Ws w x b m rb v L1 L2 :=
  ⟨h.kc.later k, h.rc.below k, h.lr, h.ln, h.n1, h.n2, h.n3, h.n4⟩
theorem Ws.prog {w u x : World} {b rb : Nat} {m m' : Option Nat} {v : Value} {L1 L2 L1' : List Li} (h : Ws w u b m rb v L1 L2) (c : Ca x b m' L1') (t : CaTo u x b m m') : Ws w x b m' rb v L1' L2 := by
  refine ⟨h.kc.to c t, h.rc.later t.mod (fun e => e.elim h.n1 h.n2) (fun g hg e => e.elim (fun e => h.n3 (e ▸ hg)) (fun e => h.n4 g e hg)), h.lr, h.ln, h.n1, fun e => t.ne (q := rb) (fun g hg e2 => h.n2 (e2 ▸ hg)) h.rc.lt rb e rfl, h.n3, fun g hg hv => ?_⟩
  have hlt := h.rc.row.lt hv
  exact t.ne (q := g) (fun y hy e2 => h.n4 y hy (e2 ▸ hv)) hlt g hg rfl
theorem Ws.doc {w u x : World} {b rb : Nat} {m : Option Nat} {v v' : Value} {L1 L2 L2' : List Li} (h : Ws w u b m rb v L1 L2) (c : Rc x rb v' L2') (t : RcTo u x rb v v') : Ws w x b m rb v' L1 L2' := by
  have hb : ¬ (b = rb ∨ blk v = some b) := fun e => e.elim (fun e => h.n1 e.symm) h.n3
  have hm : ∀ g, m = some g → ¬ (g = rb ∨ blk v = some g) := fun g hg e => e.elim (fun e => h.n2 (e ▸ hg)) (h.n4 g hg)
  refine ⟨⟨h.kc.ca.later t.mod hb hm, t.mod.below h.kc.below h.kc.below.size (fun i hi => hi.elim (fun e => e ▸ h.lr) (h.ln i)), h.kc.low, h.kc.new⟩, c, h.lr, t.ge h.ln h.kc.below.size, h.n1, h.n2, fun e => t.ne (q := b) (fun g hg e2 => h.n3 (e2 ▸ hg)) h.kc.ca.lt b e rfl, fun g hg e => t.ne (q := g) (fun y hy e2 => h.n4 g hg (e2 ▸ hy)) (h.kc.ca.ne hg).2 g e rfl⟩
/-- A row of changes apart from both. -/
def AsideB (A : Option Addr) (n b : Nat) (m : Option Nat) (rb : Nat) (v : Value) : Prop := Aside A n b m ∧ AsideR A n rb v
theorem Ws.new {w u : World} {b rb : Nat} {m : Option Nat} {v : Value} {L1 L2 : List Li} (h : Ws w u b m rb v L1 L2) {A : Option Addr} {n : Nat} (hA : ∀ g off, A = some ⟨g, off, none⟩ → 0 < n → u.heap.size ≤ g) : AsideB A n b m rb v := by
  have h1 := h.kc.ca.lt
  have h2 := h.rc.lt
  refine ⟨fun g off e h0 => ⟨by have := hA g off e h0; omega, fun e2 => by have := hA g off e h0; have := (h.kc.ca.ne e2).2; omega⟩, fun g off e h0 => ⟨by have := hA g off e h0; omega, fun e2 => by have := hA g off e h0; have := h.rc.row.lt e2; omega⟩⟩
theorem AsideB.prog {u x : World} {b rb n : Nat} {m m' : Option Nat} {v : Value} {A : Option Addr} {l : List Ch} (h : AsideB A n b m rb v) (t : CaTo u x b m m') (hg : IsG u 2 encC A n l) : AsideB A n b m' rb v ∧ IsG x 2 encC A n l := ⟨⟨h.1.to t hg, h.2⟩, hg.to h.1 t⟩
theorem AsideB.doc {u x : World} {b rb n : Nat} {m : Option Nat} {v v' : Value} {A : Option Addr} {l : List Ch} (h : AsideB A n b m rb v) (t : RcTo u x rb v v') (hg : IsG u 2 encC A n l) : AsideB A n b m rb v' ∧ IsG x 2 encC A n l := ⟨⟨h.1, h.2.to t hg⟩, hg.toR h.2 t⟩

/-- A call. -/
structure OpV where
  kind : Int
  from_ : Int
  to_ : Int
  own : Bool
  A : Option Addr
  n : Nat
  c : Nat
  l : List Ch
/-- A call lies so in five cells. -/
structure OpAt (w : World) (b o : Nat) (v : OpV) : Prop where
  kind : w.cell? ⟨b, o, none⟩ = some (.int .i64 v.kind)
  from_ : w.cell? ⟨b, o + 1, none⟩ = some (.int .i64 v.from_)
  to_ : w.cell? ⟨b, o + 2, none⟩ = some (.int .i64 v.to_)
  own : w.cell? ⟨b, o + 3, none⟩ = some (.bool v.own)
  sl : w.cell? ⟨b, o + 4, none⟩ = some (.slice v.A v.n v.c)
  wk : (Lit.int .i64 v.kind).wf = true
  is : IsG w 2 encC v.A v.n v.l
  wf : ∀ s ∈ v.l, wfC s
structure IsOps (w : World) (a : Option Addr) (len : Nat) (vs : Nat → OpV) : Prop where
  max : len ≤ maxLen
  cells : 0 < len → ∃ b off, a = some ⟨b, off, none⟩ ∧ ∀ i, i < len → OpAt w b (off + i * 5) (vs i)
theorem chs_of {H : Type} {enc : TypeId × Value → H} {W : World} {v : Value} {y : DataW H × List MemPlace} {n : Nat} (hf : DataW.trod enc Try.prog W 0 (fun _ => true) true n 30 [v] = some y) :
    ∃ a len cap l, v = .slice a len cap ∧ IsG W 2 encC a len l ∧ ∀ s ∈ l, wfC s := by
  rcases open_fields Try.underlying30 Try.underlying36 (by kernel_rfl) (by kernel_rfl) hf with hcs | ⟨x, l, c, m, hcs, hl, hm, hmm, hel⟩
  · simp at hcs
    subst hcs
    obtain ⟨l, hl⟩ := ofChs (w := W) (A := none) (n := 0) (vs := fun _ => (0, [])) (Nat.zero_le _) (fun h => by omega)
    exact ⟨none, 0, 0, l, rfl, hl⟩
  · simp at hcs
    subst hcs
    have hmm' : m = c := by simpa using hmm
    by_cases h0 : 0 < l
    · have hspot : x.spot = none := by
        obtain ⟨n0, h1⟩ := hel 0 (by omega)
        obtain ⟨v0, y0, hc0, _⟩ := h1 0 _ rfl
        have := World.cell?_spot hc0
        simpa [Addr.add] using this
      obtain ⟨b, off, spot⟩ := x
      simp only at hspot
      subst hspot
      have key : ∀ i, i < l → ∃ s : Ch, (W.cell? ⟨b, off + i * 2, none⟩ = some (.int .i64 s.1) ∧ W.cell? ⟨b, off + i * 2 + 1, none⟩ = some (.string (str s.2))) ∧ wfC s := fun i hi => by
        obtain ⟨n0, h1⟩ := hel i (by omega)
        have ad : ∀ j, (⟨b, off, none⟩ : Addr).add (i * 2 + j) = ⟨b, off + i * 2 + j, none⟩ := fun j => by rw [Go.WideShapes.add_plain, Nat.add_assoc]
        obtain ⟨v0, y0, c0, t0⟩ := h1 0 _ rfl
        obtain ⟨v1, y1, c1, t1⟩ := h1 1 _ rfl
        obtain ⟨n0, e0, _, w0⟩ := DataW.trod_int Try.underlying3 t0
        obtain ⟨n1, e1, _, w1⟩ := DataW.trod_string Try.underlying9 t1
        simp only [List.cons.injEq, and_true] at e0 e1
        subst e0 e1
        obtain ⟨l1, rfl⟩ := str_of n1
        change W.cell? ((⟨b, off, none⟩ : Addr).add (i * 2 + 0)) = _ at c0
        change W.cell? ((⟨b, off, none⟩ : Addr).add (i * 2 + 1)) = _ at c1
        rw [ad] at c0 c1
        exact ⟨(n0, l1), ⟨c0, c1⟩, w0, by simpa [str_size] using w1⟩
      obtain ⟨ls, hl'⟩ := ofChs (w := W) (A := some ⟨b, off, none⟩) (n := l) (vs := fun i => if hi : i < l then (key i hi).choose else (0, [])) (Nat.le_trans hl hm) (fun _ => ⟨b, off, rfl, fun i hi => by
        simp only [dif_pos hi]
        exact (key i hi).choose_spec⟩)
      exact ⟨some ⟨b, off, none⟩, l, c, ls, rfl, hl'⟩
    · obtain ⟨ls, hl'⟩ := ofChs (w := W) (A := some x) (n := l) (vs := fun _ => (0, [])) (Nat.le_trans hl hm) (fun h => absurd h h0)
      exact ⟨some x, l, c, ls, rfl, hl'⟩
set_option maxRecDepth 100000 in
theorem opens_ops18 {H : Type} {enc : TypeId × Value → H} {W : World} {v : Value} {d : DataW H} {p : List MemPlace} {base : Nat}
    (hv : Value.okWide Try.prog W .any base 22 v) (h : DataW.Trod enc Try.prog W 0 (fun _ => true) true 22 v d p) :
    ∃ a len cap vs, v = .slice a len cap ∧ IsOps W a len vs ∧ len ≤ cap := by
  obtain ⟨a, len, cap, rfl⟩ := okWide_slice Try.underlying22 hv
  obtain ⟨fuel, hf⟩ := h
  rcases open_fields Try.underlying22 Try.underlying32 (by kernel_rfl) (by kernel_rfl) hf with hcs | ⟨x, l, c, m, hcs, hl, hm, hmm, hel⟩
  · simp [Value.cells] at hcs
    obtain ⟨rfl, rfl, rfl⟩ := hcs
    exact ⟨none, 0, 0, fun _ => ⟨0, 0, 0, false, none, 0, 0, []⟩, rfl, ⟨Nat.zero_le _, fun h => by omega⟩, Nat.le_refl _⟩
  · simp [Value.cells] at hcs
    obtain ⟨rfl, rfl, rfl⟩ := hcs
    have hmm' : m = cap := by simpa using hmm
    by_cases h0 : 0 < len
    · have hspot : x.spot = none := by
        obtain ⟨n0, h1⟩ := hel 0 (by omega)
        obtain ⟨v0, y0, hc0, _⟩ := h1 0 _ rfl
        have := World.cell?_spot hc0
        simpa [Addr.add] using this
      obtain ⟨b, off, spot⟩ := x
      simp only at hspot
      subst hspot
      have key : ∀ i, i < len → ∃ v : OpV, OpAt W b (off + i * 5) v := fun i hi => by
        obtain ⟨n0, h1⟩ := hel i (by omega)
        have ad : ∀ j, (⟨b, off, none⟩ : Addr).add (i * 5 + j) = ⟨b, off + i * 5 + j, none⟩ := fun j => by rw [Go.WideShapes.add_plain, Nat.add_assoc]
        obtain ⟨v0, y0, c0, t0⟩ := h1 0 _ rfl
        obtain ⟨v1, y1, c1, t1⟩ := h1 1 _ rfl
        obtain ⟨v2, y2, c2, t2⟩ := h1 2 _ rfl
        obtain ⟨v3, y3, c3, t3⟩ := h1 3 _ rfl
        obtain ⟨v4, y4, c4, t4⟩ := h1 4 _ rfl
        obtain ⟨n0, e0, _, w0⟩ := DataW.trod_int Try.underlying3 t0
        obtain ⟨n1, e1, _, w1⟩ := DataW.trod_int Try.underlying3 t1
        obtain ⟨n2, e2, _, w2⟩ := DataW.trod_int Try.underlying3 t2
        obtain ⟨n3, e3, _⟩ := DataW.trod_bool Try.underlying4 t3
        obtain ⟨a4, l4, p4, s4, rfl, hs, hw⟩ := chs_of t4
        simp only [List.cons.injEq, and_true] at e0 e1 e2 e3
        subst e0 e1 e2 e3
        change W.cell? ((⟨b, off, none⟩ : Addr).add (i * 5 + 0)) = _ at c0
        change W.cell? ((⟨b, off, none⟩ : Addr).add (i * 5 + 1)) = _ at c1
        change W.cell? ((⟨b, off, none⟩ : Addr).add (i * 5 + 2)) = _ at c2
        change W.cell? ((⟨b, off, none⟩ : Addr).add (i * 5 + 3)) = _ at c3
        change W.cell? ((⟨b, off, none⟩ : Addr).add (i * 5 + 4)) = _ at c4
        rw [ad] at c0 c1 c2 c3 c4
        exact ⟨⟨n0, n1, n2, n3, a4, l4, p4, s4⟩, c0, c1, c2, c3, c4, w0, hs, hw⟩
      refine ⟨some ⟨b, off, none⟩, len, cap, fun i => if hi : i < len then (key i hi).choose else ⟨0, 0, 0, false, none, 0, 0, []⟩, rfl, ⟨Nat.le_trans hl hm, fun _ => ⟨b, off, rfl, fun i hi => ?_⟩⟩, hl⟩
      rw [dif_pos hi]
      exact (key i hi).choose_spec
    · exact ⟨some x, len, cap, fun _ => ⟨0, 0, 0, false, none, 0, 0, []⟩, rfl, ⟨Nat.le_trans hl hm, fun h => absurd h h0⟩, hl⟩
theorem OpAt.below {w w' : World} {b o : Nat} {v : OpV} (h : OpAt w b o v) (m : Below w.heap.size w w') : OpAt w' b o v := by
  have hb := lt_of_cell h.kind
  exact ⟨(m.cell (p := ⟨b, o, none⟩) hb).trans h.kind, (m.cell (p := ⟨b, o + 1, none⟩) hb).trans h.from_, (m.cell (p := ⟨b, o + 2, none⟩) hb).trans h.to_, (m.cell (p := ⟨b, o + 3, none⟩) hb).trans h.own, (m.cell (p := ⟨b, o + 4, none⟩) hb).trans h.sl, h.wk, h.is.below m, h.wf⟩
theorem IsOps.at {W w : World} {a : Option Addr} {len : Nat} {vs : Nat → OpV} (h : IsOps W a len vs) (m : Below W.heap.size W w) {i : Nat} (hi : i < len) : ∃ b off, a = some ⟨b, off, none⟩ ∧ OpAt w b (off + i * 5) (vs i) := by
  obtain ⟨b, off, rfl, hc⟩ := h.cells (by omega)
  exact ⟨b, off, rfl, (hc i hi).below m⟩
theorem tmod_bd (x : Int) {k : Int} (hk : 0 < k) : -k < x.tmod k ∧ x.tmod k < k := ⟨by have := Int.lt_tmod_of_pos x hk; omega, Int.tmod_lt_of_pos x hk⟩
theorem beq_no {a b : Int} (h : a ≠ b) : (a == b) = false := by simpa using h
end Go.Proofs.Ytocnpjmhkgnomaa
