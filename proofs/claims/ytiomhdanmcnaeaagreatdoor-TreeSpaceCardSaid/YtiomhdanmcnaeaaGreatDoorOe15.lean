/- Lists of entries as arguments; no two have the same bytes; at this translation. -/
import Derived.Test.YtiomhdanmcnaeaaGreatDoorFw15
import Derived.Deep.Fields
import Derived.Deep.Slices
import Derived.ChangeSame
namespace Go.Proofs.YtiomhdanmcnaeaaGreatDoor
open Go.RowKit Go.ChangeShapes Go.WideShapes Go.ChangeAt Go.Deep


section
variable {H : Type} {enc : TypeId × Value → H} {P : Program} {w : World} {base : Nat} {spare : Nat → Bool} {held : Bool}
theorem open_fields {t e : TypeId} {fs : Array Field} {fuel : Nat} {cs : List Value} {x : DataW H × List MemPlace} (ht : P.underlying t = some (.slice e)) (he : P.underlying e = some (.struct fs))
    (hone : oneCellFields P fs = true) (hC : P.cellsOf e = fs.size) (h : DataW.trod enc P w base spare held fuel t cs = some x) :
    (cs = [.slice none 0 0]) ∨
    ∃ (a : Addr) (len cap m : Nat), cs = [.slice (some a) len cap] ∧ len ≤ cap ∧ cap ≤ maxLen ∧ m = (if spare a.block then cap else len) ∧
      ∀ i, i < m → ∃ (n : Nat), ∀ (j : Nat) (f : Field), fs[j]? = some f → ∃ (v : Value) (y : DataW H × List MemPlace), w.cell? (a.add (i * fs.size + j)) = some v ∧ DataW.trod enc P w base spare held n f.type [v] = some y := by
  rcases open_slice ht h with h0 | ⟨a, len, cap, m, n, D, Pl, hcs, hb, hl, hm, hmm, hx, hi⟩
  · exact .inl h0.1
  · refine .inr ⟨a, len, cap, m, hcs, hl, hm, hmm, fun i him => ?_⟩
    obtain ⟨cs', hc, ht'⟩ := hi i him
    rw [hC] at hc
    obtain ⟨ys, n', hn', hy, hlen, hyl, hf⟩ := DataW.trod_struct he ht'
    obtain ⟨_, hcl, hat⟩ := World.cells?_some hc
    refine ⟨n', fun j f hj => ?_⟩
    obtain ⟨ho, hk⟩ := hone_of hone j f hj
    have hjl : j < fs.size := (Array.getElem?_eq_some_iff.1 hj).1
    have hcell := hat j hjl
    have hv : cs'[j]? = some (cs'[j]'(by omega)) := List.getElem?_eq_getElem (by omega)
    have h1 := hf j f hj
    rw [ho, hk] at h1
    have hone' : (cs'.drop j).take 1 = [cs'[j]'(by omega)] := by
      rw [List.drop_eq_getElem_cons (by omega)]
      rfl
    rw [hone'] at h1
    have hys : ys[j]? = some (ys[j]'(by omega)) := List.getElem?_eq_getElem (by omega)
    refine ⟨_, _, ?_, h1.trans hys⟩
    rw [← Go.Deep.add_add, hcell, hv]
end
def wfN (e : Ent) : Prop := e.1.length ≤ maxLen ∧ (Lit.int .i64 e.2).wf = true
theorem ofEnts {w : World} {A : Option Addr} {n : Nat} {vs : Nat → Ent} (hm : n ≤ maxLen) (h : 0 < n → ∃ g off, A = some ⟨g, off, none⟩ ∧ ∀ i, i < n → (w.cell? ⟨g, off + i * 2, none⟩ = some (.string (str (vs i).1)) ∧ w.cell? ⟨g, off + i * 2 + 1, none⟩ = some (.int .i64 (vs i).2)) ∧ wfN (vs i)) :
    ∃ l : List Ent, IsG w 2 encN A n l ∧ ∀ s ∈ l, wfN s := by
  refine ⟨(List.range n).map vs, ⟨by simp, hm, fun h0 => ?_⟩, fun s hs => ?_⟩
  · obtain ⟨g, off, e, hc⟩ := h h0
    refine ⟨g, off, e, lt_of_cell (hc 0 h0).1.1, fun i a j u hi hj => ?_⟩
    have hin : i < n := by have := (List.getElem?_eq_some_iff.1 hi).1; simpa using this
    obtain ⟨⟨c0, c1⟩, _⟩ := hc i hin
    have ha : vs i = a := by simpa [hin] using hi
    subst ha
    match j, hj with
    | 0, hj => simp [encN] at hj; subst hj; exact c0
    | 1, hj => simp [encN] at hj; subst hj; exact c1
    | j + 2, hj => simp [encN] at hj
  · simp only [List.mem_map, List.mem_range] at hs
    obtain ⟨i, hi, rfl⟩ := hs
    obtain ⟨g, off, e, hc⟩ := h (by omega)
    exact (hc i hi).2
set_option maxRecDepth 100000 in
theorem opens_ents {H : Type} {enc : TypeId × Value → H} {W : World} {v : Value} {d : DataW H} {p : List MemPlace} {base : Nat}
    (hv : Value.okWide Tryz.prog W .any base 72 v) (h : DataW.Trod enc Tryz.prog W 0 (fun _ => true) true 72 v d p) :
    ∃ a len cap l, v = .slice a len cap ∧ IsG W 2 encN a len l ∧ ∀ s ∈ l, wfN s := by
  obtain ⟨a, len, cap, rfl⟩ := okWide_slice Tryz.underlying72 hv
  obtain ⟨fuel, hf⟩ := h
  rcases open_fields Tryz.underlying72 Tryz.underlying82 (by kernel_rfl) (by kernel_rfl) hf with hcs | ⟨x, l, c, m, hcs, hl, hm, hmm, hel⟩
  · simp [Value.cells] at hcs
    obtain ⟨rfl, rfl, rfl⟩ := hcs
    obtain ⟨l, hl⟩ := ofEnts (w := W) (A := none) (n := 0) (vs := fun _ => ([], 0)) (Nat.zero_le _) (fun h => by omega)
    exact ⟨none, 0, 0, l, rfl, hl⟩
  · simp [Value.cells] at hcs
    obtain ⟨rfl, rfl, rfl⟩ := hcs
    have hmm' : m = cap := by simpa using hmm
    by_cases h0 : 0 < len
    · have hspot : x.spot = none := by
        obtain ⟨n0, h1⟩ := hel 0 (by omega)
        obtain ⟨v0, y0, hc0, _⟩ := h1 0 _ rfl
        have := World.cell?_spot hc0
        simpa [Addr.add] using this
      obtain ⟨b, off, spot⟩ := x
      simp only at hspot
      subst hspot
      have key : ∀ i, i < len → ∃ s : Ent, (W.cell? ⟨b, off + i * 2, none⟩ = some (.string (str s.1)) ∧ W.cell? ⟨b, off + i * 2 + 1, none⟩ = some (.int .i64 s.2)) ∧ wfN s := fun i hi => by
        obtain ⟨n0, h1⟩ := hel i (by omega)
        have ad : ∀ j, (⟨b, off, none⟩ : Addr).add (i * 2 + j) = ⟨b, off + i * 2 + j, none⟩ := fun j => by rw [Go.WideShapes.add_plain, Nat.add_assoc]
        obtain ⟨v0, y0, c0, t0⟩ := h1 0 _ rfl
        obtain ⟨v1, y1, c1, t1⟩ := h1 1 _ rfl
        obtain ⟨n0, e0, _, w0⟩ := DataW.trod_string Tryz.underlying9 t0
        obtain ⟨n1, e1, _, w1⟩ := DataW.trod_int Tryz.underlying3 t1
        simp only [List.cons.injEq, and_true] at e0 e1
        subst e0 e1
        obtain ⟨l1, rfl⟩ := str_of n0
        change W.cell? ((⟨b, off, none⟩ : Addr).add (i * 2 + 0)) = _ at c0
        change W.cell? ((⟨b, off, none⟩ : Addr).add (i * 2 + 1)) = _ at c1
        rw [ad] at c0 c1
        exact ⟨(l1, n1), ⟨c0, c1⟩, by simpa [str_size] using w0, w1⟩
      obtain ⟨l, hl'⟩ := ofEnts (w := W) (A := some ⟨b, off, none⟩) (n := len) (vs := fun i => if hi : i < len then (key i hi).choose else ([], 0)) (Nat.le_trans hl hm) (fun _ => ⟨b, off, rfl, fun i hi => by
        simp only [dif_pos hi]
        exact (key i hi).choose_spec⟩)
      exact ⟨some ⟨b, off, none⟩, len, cap, l, rfl, hl'⟩
    · obtain ⟨l, hl'⟩ := ofEnts (w := W) (A := some x) (n := len) (vs := fun _ => ([], 0)) (Nat.le_trans hl hm) (fun h => absurd h h0)
      exact ⟨some x, len, cap, l, rfl, hl'⟩
/-! ### no two lists have the same bytes -/
theorem be_same {k a b : Nat} (ha : a < 256 ^ k) (hb : b < 256 ^ k) (h : be k a = be k b) : a = b := by
  have h1 := num_be k a
  have h2 := num_be k b
  rw [h] at h1
  rw [Nat.mod_eq_of_lt ha] at h1
  rw [Nat.mod_eq_of_lt hb] at h2
  omega
theorem bytesN_cons (e : Ent) (l : List Ent) : bytesN (e :: l) = be 2 e.1.length ++ (e.1 ++ (be 4 e.2.toNat ++ bytesN l)) := by
  simp [bytesN, partsN, partsE]
def EntOk (e : Ent) : Prop := e.1.length ≤ 30 ∧ 0 ≤ e.2 ∧ e.2 < 65536
theorem right_ok {l : List Ent} (h : rightN l = true) : ∀ e ∈ l, EntOk e := fun e he => by
  obtain ⟨h1, h2, h3⟩ := right_ent h he
  exact ⟨(name_some h1).2, h2, h3⟩
theorem bytes_one : ∀ {l m : List Ent}, (∀ e ∈ l, EntOk e) → (∀ e ∈ m, EntOk e) → bytesN l = bytesN m → l = m
  | [], [], _, _, _ => rfl
  | [], b :: m, _, _, h => by
    have := congrArg List.length h
    rw [bytesN_cons] at this
    simp [be_length, bytesN, partsN] at this; omega
  | a :: l, [], _, _, h => by
    have := congrArg List.length h
    rw [bytesN_cons] at this
    simp [be_length, bytesN, partsN] at this
  | a :: l, b :: m, hl, hm, h => by
    rw [bytesN_cons, bytesN_cons] at h
    obtain ⟨h1, h2⟩ := List.append_inj h (by rw [be_length, be_length])
    obtain ⟨a1, a2, a3⟩ := hl a (by simp)
    obtain ⟨b1, b2, b3⟩ := hm b (by simp)
    have e1 := be_same (by omega) (by omega) h1
    obtain ⟨h3, h4⟩ := List.append_inj h2 e1
    obtain ⟨h5, h6⟩ := List.append_inj h4 (by rw [be_length, be_length])
    have e2 := be_same (by omega) (by omega) h5
    have e3 := bytes_one (fun e he => hl e (List.mem_cons_of_mem _ he)) (fun e he => hm e (List.mem_cons_of_mem _ he)) h6
    rw [e3, show a = b from Prod.ext h3 (by omega)]
end Go.Proofs.YtiomhdanmcnaeaaGreatDoor
