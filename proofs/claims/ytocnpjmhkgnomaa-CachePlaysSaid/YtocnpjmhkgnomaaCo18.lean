/- Changes that came in, cut small; arrays of 32; what a statement keeps of a cache, at this translation. -/
import Derived.Test.YtocnpjmhkgnomaaCz18
import Derived.Deep.Fields
import Derived.Deep.Slices
import Derived.ChangeSame
namespace Go.Proofs.Ytocnpjmhkgnomaa
open Go.RowKit Go.ChangeShapes Go.WideShapes Go.ChangeAt Go.Deep

section
variable {H : Type} {enc : TypeId × Value → H} {P : Program} {w : World} {base : Nat} {spare : Nat → Bool} {held : Bool}
theorem open_fields {t e : TypeId} {fs : Array Field} {fuel : Nat} {cs : List Value} {x : DataW H × List MemPlace} (ht : P.underlying t = some (.slice e)) (he : P.underlying e = some (.struct fs))
    (hone : oneCellFields P fs = true) (hC : P.cellsOf e = fs.size) (h : DataW.trod enc P w base spare held fuel t cs = some x) :
    (cs = [.slice none 0 0]) ∨
    ∃ (a : Addr) (len cap m : Nat), cs = [.slice (some a) len cap] ∧ len ≤ cap ∧ cap ≤ maxLen ∧ m = (if spare a.block then cap else len) ∧
      ∀ i, i < m → ∃ (n : Nat), ∀ (j : Nat) (f : Field), fs[j]? = some f → ∃ (v : Value) (y : DataW H × List MemPlace), w.cell? (a.add (i * fs.size + j)) = some v ∧ DataW.trod enc P w base spare held n f.type [v] = some y := by
  rcases open_slice ht h with h0 | ⟨a, len, cap, m, n, D, Pl, hcs, hb, hl, hm, hmm, hx, hi⟩
  · exact .inl h0.1
  · refine .inr ⟨a, len, cap, m, hcs, hl, hm, hmm, fun i him => ?_⟩
    obtain ⟨cs', hc, ht'⟩ := hi i him
    rw [hC] at hc
    obtain ⟨ys, n', hn', hy, hlen, hyl, hf⟩ := DataW.trod_struct he ht'
    obtain ⟨_, hcl, hat⟩ := World.cells?_some hc
    refine ⟨n', fun j f hj => ?_⟩
    obtain ⟨ho, hk⟩ := hone_of hone j f hj
    have hjl : j < fs.size := (Array.getElem?_eq_some_iff.1 hj).1
    have hcell := hat j hjl
    have hv : cs'[j]? = some (cs'[j]'(by omega)) := List.getElem?_eq_getElem (by omega)
    have h1 := hf j f hj
    rw [ho, hk] at h1
    have hone' : (cs'.drop j).take 1 = [cs'[j]'(by omega)] := by
      rw [List.drop_eq_getElem_cons (by omega)]
      rfl
    rw [hone'] at h1
    have hys : ys[j]? = some (ys[j]'(by omega)) := List.getElem?_eq_getElem (by omega)
    refine ⟨_, _, ?_, h1.trans hys⟩
    rw [← Go.Deep.add_add, hcell, hv]
end
def wfC (c : Ch) : Prop := (Lit.int .i64 c.1).wf = true ∧ c.2.length ≤ maxLen
theorem ofChs {w : World} {A : Option Addr} {n : Nat} {vs : Nat → Ch} (hm : n ≤ maxLen) (h : 0 < n → ∃ g off, A = some ⟨g, off, none⟩ ∧ ∀ i, i < n → (w.cell? ⟨g, off + i * 2, none⟩ = some (.int .i64 (vs i).1) ∧ w.cell? ⟨g, off + i * 2 + 1, none⟩ = some (.string (str (vs i).2))) ∧ wfC (vs i)) :
    ∃ l : List Ch, IsG w 2 encC A n l ∧ ∀ s ∈ l, wfC s := by
  refine ⟨(List.range n).map vs, ⟨by simp, hm, fun h0 => ?_⟩, fun s hs => ?_⟩
  · obtain ⟨g, off, e, hc⟩ := h h0
    refine ⟨g, off, e, lt_of_cell (hc 0 h0).1.1, fun i a j u hi hj => ?_⟩
    have hin : i < n := by have := (List.getElem?_eq_some_iff.1 hi).1; simpa using this
    obtain ⟨⟨c0, c1⟩, _⟩ := hc i hin
    have ha : vs i = a := by simpa [hin] using hi
    subst ha
    match j, hj with
    | 0, hj => simp [encC] at hj; subst hj; exact c0
    | 1, hj => simp [encC] at hj; subst hj; exact c1
    | j + 2, hj => simp [encC] at hj
  · simp only [List.mem_map, List.mem_range] at hs
    obtain ⟨i, hi, rfl⟩ := hs
    obtain ⟨g, off, e, hc⟩ := h (by omega)
    exact (hc i hi).2
set_option maxRecDepth 100000 in
theorem opens_chs {H : Type} {enc : TypeId × Value → H} {W : World} {v : Value} {d : DataW H} {p : List MemPlace} {base : Nat}
    (hv : Value.okWide Try.prog W .any base 30 v) (h : DataW.Trod enc Try.prog W 0 (fun _ => true) true 30 v d p) :
    ∃ a len cap l, v = .slice a len cap ∧ IsG W 2 encC a len l ∧ ∀ s ∈ l, wfC s := by
  obtain ⟨a, len, cap, rfl⟩ := okWide_slice Try.underlying30 hv
  obtain ⟨fuel, hf⟩ := h
  rcases open_fields Try.underlying30 Try.underlying36 (by kernel_rfl) (by kernel_rfl) hf with hcs | ⟨x, l, c, m, hcs, hl, hm, hmm, hel⟩
  · simp [Value.cells] at hcs
    obtain ⟨rfl, rfl, rfl⟩ := hcs
    obtain ⟨l, hl⟩ := ofChs (w := W) (A := none) (n := 0) (vs := fun _ => (0, [])) (Nat.zero_le _) (fun h => by omega)
    exact ⟨none, 0, 0, l, rfl, hl⟩
  · simp [Value.cells] at hcs
    obtain ⟨rfl, rfl, rfl⟩ := hcs
    have hmm' : m = cap := by simpa using hmm
    by_cases h0 : 0 < len
    · have hspot : x.spot = none := by
        obtain ⟨n0, h1⟩ := hel 0 (by omega)
        obtain ⟨v0, y0, hc0, _⟩ := h1 0 _ rfl
        have := World.cell?_spot hc0
        simpa [Addr.add] using this
      obtain ⟨b, off, spot⟩ := x
      simp only at hspot
      subst hspot
      have key : ∀ i, i < len → ∃ s : Ch, (W.cell? ⟨b, off + i * 2, none⟩ = some (.int .i64 s.1) ∧ W.cell? ⟨b, off + i * 2 + 1, none⟩ = some (.string (str s.2))) ∧ wfC s := fun i hi => by
        obtain ⟨n0, h1⟩ := hel i (by omega)
        have ad : ∀ j, (⟨b, off, none⟩ : Addr).add (i * 2 + j) = ⟨b, off + i * 2 + j, none⟩ := fun j => by rw [Go.WideShapes.add_plain, Nat.add_assoc]
        obtain ⟨v0, y0, c0, t0⟩ := h1 0 _ rfl
        obtain ⟨v1, y1, c1, t1⟩ := h1 1 _ rfl
        obtain ⟨n0, e0, _, w0⟩ := DataW.trod_int Try.underlying3 t0
        obtain ⟨n1, e1, _, w1⟩ := DataW.trod_string Try.underlying9 t1
        simp only [List.cons.injEq, and_true] at e0 e1
        subst e0 e1
        obtain ⟨l1, rfl⟩ := str_of n1
        change W.cell? ((⟨b, off, none⟩ : Addr).add (i * 2 + 0)) = _ at c0
        change W.cell? ((⟨b, off, none⟩ : Addr).add (i * 2 + 1)) = _ at c1
        rw [ad] at c0 c1
        exact ⟨(n0, l1), ⟨c0, c1⟩, w0, by simpa [str_size] using w1⟩
      obtain ⟨l, hl'⟩ := ofChs (w := W) (A := some ⟨b, off, none⟩) (n := len) (vs := fun i => if hi : i < len then (key i hi).choose else (0, [])) (Nat.le_trans hl hm) (fun _ => ⟨b, off, rfl, fun i hi => by
        simp only [dif_pos hi]
        exact (key i hi).choose_spec⟩)
      exact ⟨some ⟨b, off, none⟩, len, cap, l, rfl, hl'⟩
    · obtain ⟨l, hl'⟩ := ofChs (w := W) (A := some x) (n := len) (vs := fun _ => (0, [])) (Nat.le_trans hl hm) (fun h => absurd h h0)
      exact ⟨some x, len, cap, l, rfl, hl'⟩
theorem and_mask (x : Int) (m : Nat) (hm : m ≤ 9223372036854775807) : ∃ k : Nat, Hid (bits .and .i64 x (m : Int) = (k : Int)) ∧ k ≤ m := by
  have h2 : (BitVec.ofInt 64 x &&& BitVec.ofInt 64 (m : Int)).toNat ≤ m := by
    rw [BitVec.toNat_and]
    have e : (BitVec.ofInt 64 (m : Int)).toNat = m := by simp; omega
    rw [e]
    exact Nat.and_le_right
  refine ⟨(BitVec.ofInt 64 x &&& BitVec.ofInt 64 (m : Int)).toNat, Lib.hid ?_, h2⟩
  show IntKind.i64.wrap ((BitVec.ofInt 64 x &&& BitVec.ofInt 64 (m : Int)).toNat : Int) = _
  rw [IntWalk.i64_in _ (by omega)]

/-- At most 12 changes, of 20 bytes at most. -/
def cut1 (c : Ch) : Ch := (c.1, c.2.take 20)
def cutC (l : List Ch) : List Ch := (l.take 12).map cut1
theorem cutC_length (l : List Ch) : (cutC l).length ≤ 12 := by simp [cutC]; omega
theorem cutC_wf {l : List Ch} (h : ∀ s ∈ l, wfC s) : ∀ s ∈ cutC l, (Lit.int .i64 s.1).wf = true := by
  intro s hs
  obtain ⟨x, hx, rfl⟩ := List.mem_map.1 hs
  exact (h x (List.mem_of_mem_take hx)).1
set_option maxRecDepth 100000 in
set_option maxHeartbeats 2000000 in
theorem small18_any (A : Option Addr) (n c : Nat) (l : List Ch) (w : World) (h : IsG w 2 encC A n l) (hwf : ∀ s ∈ l, wfC s) :
    Calls Try.prog 10 #[.slice A n c] w fun e w' => ∃ A' n' c', e = .returned (.slice A' n' c') ∧ RG w' 2 encC (.slice A' n' c') (cutC l) ∧ (∀ g, blk (.slice A' n' c') = some g → w.heap.size ≤ g) ∧ Below w.heap.size w w' := by
  have HG := Lib.hid h
  have Hl := Lib.hid h.length
  have hsm := h.small
  clear h
  go_enter Try.func10, Try.ntmps10
  go_wp2_with fail
  go_loopw [3, 4] (fun v i wr => ∃ j : Nat, j ≤ n ∧ j ≤ 12 ∧ i = .int .i64 j ∧ Hid (RG wr 2 encC v ((l.take j).map cut1) ∧ (∀ g, blk v = some g → w.heap.size ≤ g) ∧ Below w.heap.size w wr)) (fun _ i _ => 12 - (intOf i).toNat)
  case atStart => exact ⟨0, Nat.zero_le _, Nat.zero_le _, rfl, Lib.hid ⟨RG.nil _ _ _, (fun g e => by cases e), Below.refl _ _⟩⟩
  case round =>
    obtain ⟨j, hj, hj12, rfl, HC⟩ := hrel
    obtain ⟨A2, c2, rfl⟩ := HC.out.1.shape
    obtain ⟨dn, Hdn⟩ : ∃ dn, Hid (((l.take j).map cut1).length = dn) := ⟨_, Lib.hid rfl⟩
    have hdl : dn ≤ 12 := by rw [← Hdn.out]; simp; omega
    rw [Hdn.out] at HC ⊢
    have fin : (j = n ∨ j = 12) → Hid (RG wr 2 encC (.slice A2 dn c2) (cutC l) ∧ (∀ g, blk (.slice A2 dn c2) = some g → w.heap.size ≤ g) ∧ Below w.heap.size w wr) := fun e => Lib.hid (by
      have e2 : (l.take j).map cut1 = cutC l := by
        unfold cutC
        rcases e with rfl | rfl
        · rw [List.take_of_length_le (by have := Hl.out; omega), List.take_of_length_le (by have := Hl.out; omega)]
        · rfl
      rw [← e2]
      exact HC.out)
    by_cases hlt : j < n
    · by_cases h12 : j < 12
      · have h12' : (j : Int) < 12 := by omega
        obtain ⟨x, Hx⟩ : ∃ x, Hid (l[j]? = some x) := ⟨l[j]'(by have := Hl.out; omega), Lib.hid (List.getElem?_eq_getElem _)⟩
        obtain ⟨g, off, rfl, hgl, hc⟩ := (HG.out.below HC.out.2.2).cells (by omega)
        have c0 := hc j x 0 _ Hx.out rfl
        have c1 := hc j x 1 _ Hx.out rfl
        rw [Nat.add_zero] at c0
        have hxl := (hwf x (List.mem_of_getElem? Hx.out)).2
        have Hsn : Hid ((l.take (j + 1)).map cut1 = (l.take j).map cut1 ++ [(x.1, x.2.take 20)]) := Lib.hid (by
          obtain ⟨hjl, ej⟩ := List.getElem?_eq_some_iff.1 Hx.out
          rw [List.take_succ_eq_append_getElem hjl, ej, List.map_append]
          rfl)
        clear hc fin
        obtain ⟨t, Ht⟩ : ∃ t, Hid (x.2.take 20 = t) := ⟨_, Lib.hid rfl⟩
        rw [Ht.out] at Hsn
        obtain ⟨W, HW⟩ : ∃ W, Hid (wr.alloc (.cells #[.int .i64 x.1, .string (str t)] 36) = W) := ⟨_, Lib.hid rfl⟩
        obtain ⟨p, Hp⟩ : ∃ p, Hid (wr.heap.size = p) := ⟨_, Lib.hid rfl⟩
        have hbW : Below wr.heap.size wr W := by rw [← HW.out]; exact balloc (Below.refl _ _) _
        have hI : IsG W 2 encC (some ⟨p, 0, none⟩) 1 [(x.1, t)] := by
          rw [← HW.out, ← Hp.out]
          exact chOne wr (x.1, t)
        obtain ⟨v2, w2, hr2, r2, a2⟩ := appG chInf18 encC_ok (HC.out.1.below hbW) (c := 1) hI (by rw [Hdn.out]; omega) (by decide) 30
        have HR2 := Lib.hid hr2
        have N2 : Hid (RG w2 2 encC v2 ((l.take (j + 1)).map cut1) ∧ (∀ g, blk v2 = some g → w.heap.size ≤ g) ∧ Below w.heap.size w w2) := Lib.hid (by
          rw [Hsn.out]
          have hB := HC.out.2.2.size
          refine ⟨r2, fun q e => ?_, ?_⟩
          · rcases a2.blk with e2 | ⟨q2, e2, hq2⟩
            · exact HC.out.2.1 q (e2 ▸ e)
            · rw [e2] at e
              obtain rfl := Option.some.inj e
              have := hbW.size
              omega
          · exact a2.mod.below (HC.out.2.2.trans (hbW.mono hB)) (Nat.le_trans hB hbW.size) HC.out.2.1)
        have hdn' : Hid (((l.take (j + 1)).map cut1).length = dn + 1) := Lib.hid (by rw [Hsn.out, List.length_append, Hdn.out]; rfl)
        clear hbW hI hr2 r2 a2
        obtain ⟨A3, c3, rfl⟩ : ∃ A3 c3, v2 = .slice A3 (dn + 1) c3 := by
          obtain ⟨A3, c3, e⟩ := N2.out.1.shape
          exact ⟨A3, c3, by rw [e, hdn'.out]⟩
        by_cases h20 : 20 < x.2.length
        · go_wp2_with (first | (at_builtin; rw [Ht.out, HW.out, Hp.out]; refine wpList_append_run rfl (.tmp 26) (.tmp 34) 30 rfl (by exact HR2.out) ?_) | fail)
          go_roundw
          case rel => exact ⟨j + 1, by omega, by omega, by go_num, N2⟩
          case measure => simp [intOf]; omega
        · have Hte : Hid (x.2 = t) := Lib.hid (by rw [← Ht.out, List.take_of_length_le (by omega)])
          rw [Hte.out] at c1 h20
          go_wp2_with (first | (at_builtin; rw [HW.out, Hp.out]; refine wpList_append_run rfl (.tmp 26) (.tmp 34) 30 rfl (by exact HR2.out) ?_) | fail)
          go_roundw
          case rel => exact ⟨j + 1, by omega, by omega, by go_num, N2⟩
          case measure => simp [intOf]; omega
      · have h12' : ¬ (j : Int) < 12 := by omega
        have F := fin (.inr (by omega))
        clear fin
        go_wp2
        go_ret
        exact ⟨A2, dn, c2, rfl, F.out⟩
    · have F := fin (.inl (by omega))
      clear fin
      go_wp2
      go_ret
      exact ⟨A2, dn, c2, rfl, F.out⟩
end Go.Proofs.Ytocnpjmhkgnomaa
