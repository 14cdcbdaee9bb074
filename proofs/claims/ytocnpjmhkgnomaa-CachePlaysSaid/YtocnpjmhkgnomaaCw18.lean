/- The sectors of which a cache knows something, in order, at this translation. -/
import Derived.Test.YtocnpjmhkgnomaaCm18
import Derived.Test.YtocnpjmhkgnomaaShelf
import Derived.Sort.Grow
namespace Go.Proofs.Ytocnpjmhkgnomaa
open Go.RowKit Go.MapKept Go.Sort
open Go.WideElems (Fit rd rg pl rd_key rd_val rg_of rd_mk)

def encI (x : Int) : List Value := [.int .i64 x]
theorem encI_ok : Enc 1 encI := ⟨fun _ => rfl, by intro a u hu; simp [encI] at hu; subst hu; rfl, by decide⟩
theorem infoInt : (Try.prog.info? 3).map (fun i => (i.zero, i.size, i.bytes)) = some (some (.int .i64 0), 1, 8) := by kernel_rfl
theorem iInf : Inf 64 3 1 8 := by
  refine ⟨Try.underlying64, ?_⟩
  obtain ⟨i, hi, hz, hs, hb⟩ := info_parts infoInt
  exact ⟨i, _, hi, hz, hs, hb, rfl⟩
theorem i_one (w : World) (x : Int) : IsG (w.alloc (.cells #[.int .i64 x] 3)) 1 encI (some ⟨w.heap.size, 0, none⟩) 1 [x] :=
  IsG.one (by simp) (fun j u hj => match j, hj with
    | 0, hj => by simp [encI] at hj; subst hj; simp [go_sem]
    | j + 1, hj => by simp [encI] at hj)
/-- The library's sort of numbers of a call's own. -/
abbrev leN : Int → Int → Bool := fun x y => decide (x ≤ y)
theorem mod_put {w : World} {g off n : Nat} {d : Array Int} {os : Array Obj} : Mod (· = g) w (grow (putRow (Value.int .i64) (Sort.ahead w n) g off d) os) := by
  refine ⟨rfl, rfl, rfl, by simp, fun k hk hne => ?_⟩
  rw [heap_grow_old _ _ (by simpa using hk)]
  have : g ≠ k := fun e => hne e.symm
  simp [putRow, mapBlock, Sort.ahead, Array.getElem?_modify, this]
theorem Sort_any {w : World} {A : Option Addr} {n c : Nat} {ss : List Int} (h : RG w 1 encI (.slice A n c) ss) (hs : ss.length < 4611686018427387904) :
    Calls Try.prog 30 #[.slice A n c] w fun e w' => e = .returned (.tuple #[]) ∧ IsG w' 1 encI A n (ss.mergeSort leN) ∧ Mod (fun g => blk (.slice A n c) = some g) w w' := by
  obtain ⟨A', c', e⟩ := h.shape
  injection e with e1 e2 e3
  subst e1 e2 e3
  rcases h.row.is with ⟨e, hl⟩ | ⟨g, off, cap, e, hg, hnc, hcm, hcs, _, hfz⟩
  · injection e with e1 e2 e3
    subst e1 e3
    have hz : ss = [] := List.eq_nil_of_length_eq_zero hl
    subst hz
    refine (Try.slices_Sort_int_none none 0 w).mono ?_
    rintro e w' ⟨rfl, rfl⟩
    exact ⟨rfl, ⟨by simp, Nat.zero_le _, fun h => by simp at h⟩, Mod.refl _ _⟩
  · injection e with e1 e2 e3
    subst e1 e3
    have hH : Holds (Value.int .i64) w g off ss.toArray := by
      intro j hj
      have hj' : j < ss.length := by simpa using hj
      have hx : ss[j]? = some ss[j] := List.getElem?_eq_getElem hj'
      obtain ⟨h1, h2⟩ := h.cell encI_ok hx (j := 0) (u := .int .i64 ss[j]) rfl
      rw [Nat.mul_one, Nat.add_zero] at h1 h2
      refine ⟨?_, h2⟩
      rw [h1]
      simp [hj']
    refine (Try.slices_Sort_int g off c ss w hH hg hs).mono ?_
    rintro e w' ⟨rfl, k, os, rfl⟩
    refine ⟨rfl, ⟨by simp, by have := hnc; omega, fun h0 => ⟨g, off, rfl, ?_, fun i x j u hi hj => ?_⟩⟩, (mod_put).mono fun x _ e => by rw [e]; rfl⟩
    · exact Nat.lt_of_lt_of_le hg (mod_put (w := w) (g := g) (off := off) (n := k) (os := os)).size
    · have hH2 := holds_grow (Value.int .i64) (putRow (Value.int .i64) (Sort.ahead w k) g off (ss.mergeSort leN).toArray) os g off (ss.mergeSort leN).toArray (by simpa [putRow, mapBlock, Sort.ahead] using hg)
        (holds_putRow (Value.int .i64) (Sort.ahead w k) g off ss.toArray _ (holds_ahead _ _ _ _ _ _ hH) (by simp))
      have hil := (List.getElem?_eq_some_iff.1 hi).1
      obtain ⟨h1, _⟩ := hH2 i (by simpa using hil)
      match j, hj with
      | 0, hj =>
        simp [encI] at hj
        subst hj
        rw [Nat.mul_one, Nat.add_zero, h1]
        have : (ss.mergeSort leN)[i] = x := Option.some.inj ((List.getElem?_eq_getElem hil).symm.trans hi)
        have hil2 : i < (ss.mergeSort leN).toArray.size := by simpa using hil
        rw [getElem!_pos _ i hil2]
        simp [this]
      | j + 1, hj => simp [encI] at hj

/-! ### the range over the map -/
theorem grown_mod {a c : World} {row : Option Nat} (h : a.grownBy c row) : Mod (fun g => row = some g) a c := ⟨h.os, h.tape, h.output, h.size, fun k hk hn => h.block k hk (fun e => hn e.symm)⟩
theorem mod_grown {a c : World} {row : Option Nat} (h : Mod (fun g => row = some g) a c) : a.grownBy c row := ⟨h.os, h.tape, h.output, h.size, fun k hk hn => h.block k hk (fun e => hn e.symm)⟩
theorem IsMap.owns {w : World} {b n : Nat} {f : Int → Option Value} (h : IsMap w b n f) : ∃ D : DataW Unit, w.ownsMap Try.prog 3 any0 b n D ∧ ∀ k, f k ≠ none → Maps.has D (.int .i64 k) = true := by
  obtain ⟨es, clock, h1, h2, h3, h4, h5⟩ := h
  refine ⟨_, ⟨es, clock, h1, h2, h3, rfl⟩, fun k hk => ?_⟩
  cases hf : f k with
  | none => exact absurd hf hk
  | some v =>
    obtain ⟨x, hx, hxk, _⟩ := h5 k v hf
    obtain ⟨i, hw, hi, _⟩ := h4 x hx
    rw [hxk] at hi
    have e2 := vint hi
    subst e2
    obtain ⟨y, hy⟩ := h2.reads x hx
    have m1 := rd_key hy
    rw [hxk, keyI_mk hw] at m1
    refine List.any_eq_true.2 ⟨rg Try.prog 3 any0 x, mem_sorted.2 (List.mem_map.2 ⟨x, hx, rfl⟩), ?_⟩
    rw [rg_of hy, ← Option.some.inj m1]
    exact WideAt.sameKey_self (keyI.key (keyI_mk hw))
theorem rng_has {w : World} {b r n n' cnt : Nat} {D : DataW Unit} {left : Lit → Bool} {f : Int → Option Value} (h : w.ranges Try.prog 3 any0 b r n D left cnt) (hm : IsMap w b n' f) {x : Int} (hx : left (.int .i64 x) = true) : f x ≠ none := by
  obtain ⟨es, clock, since, seen, c0, hb, F, hs, hD, hr, hold, hc, hl1, hl2, _⟩ := h
  obtain ⟨es', clock', h1, h2, h3, h4, h5⟩ := hm
  rw [hb] at h1
  injection h1 with h1
  injection h1 with h1 _
  subst h1
  obtain ⟨e, he, hk⟩ := hl2 _ hx
  obtain ⟨i, hw, hi, hf⟩ := h4 e he
  obtain ⟨y, hy⟩ := F.reads e he
  have m1 := rd_key hy
  rw [hi, keyI_mk hw] at m1
  rw [rg_of hy] at hk
  have e1 : y.1 = .int .i64 i := (Option.some.inj m1).symm
  have e2 : y.1 = .int .i64 x := hk
  rw [e1] at e2
  injection e2 with _ e2
  subst e2
  rw [hf]
  simp
theorem sameI (a b : Int) (hw : (Lit.int .i64 a).wf = true) : (Lit.int .i64 a).sameKey (.int .i64 b) = decide (a = b) := by
  by_cases e : a = b
  · subst e
    simp [WideAt.sameKey_self (keyI.key (keyI_mk hw))]
  · cases hs : (Lit.int .i64 a).sameKey (.int .i64 b) with
    | false => simp [e]
    | true =>
      have := WideAt.sameKey_eq hs
      injection this with _ this
      exact absurd this e
def keysL (l : List Li) (a b : Int) : List Int := (l.filter fun x => inR a b x.1).map (·.1)
theorem mem_keysL {l : List Li} {a b k : Int} : k ∈ keysL l a b ↔ inR a b k = true ∧ mapL l k ≠ none := by
  rw [mapL_ne, keysL, List.mem_map, List.mem_map]
  constructor
  · rintro ⟨x, hx, rfl⟩
    obtain ⟨h1, h2⟩ := List.mem_filter.1 hx
    exact ⟨h2, x, h1, rfl⟩
  · rintro ⟨h1, x, hx, rfl⟩
    exact ⟨x, List.mem_filter.2 ⟨hx, h1⟩, rfl⟩
theorem keysL_rise {l : List Li} (h : Rise l) (a b : Int) : (keysL l a b).Pairwise (· < ·) := List.pairwise_map.2 (h.filter _)
theorem sort_keys {l : List Li} (h : Rise l) {a b : Int} {ss : List Int} (hnd : ss.Nodup) (hm : ∀ k, k ∈ ss ↔ inR a b k = true ∧ mapL l k ≠ none) : ss.mergeSort leN = keysL l a b := by
  have hp : ss.Perm (keysL l a b) := (List.perm_ext_iff_of_nodup hnd ((keysL_rise h a b).imp fun h => by omega)).2 fun k => by rw [hm, mem_keysL]
  have tr : ∀ a b c : Int, leN a b = true → leN b c = true → leN a c = true := fun a b c h1 h2 => by simp only [leN, decide_eq_true_eq] at *; exact Int.le_trans h1 h2
  have tot : ∀ a b : Int, (leN a b || leN b a) = true := fun a b => by simp only [leN, Bool.or_eq_true, decide_eq_true_eq]; exact Int.le_total a b
  refine List.Perm.eq_of_pairwise (le := fun a b => leN a b = true) (fun a b _ _ h1 h2 => ?_) (List.pairwise_mergeSort tr tot ss) ((keysL_rise h a b).imp fun h => by simp only [leN, decide_eq_true_eq]; omega) ((List.mergeSort_perm ss leN).trans hp)
  simp only [leN, decide_eq_true_eq] at h1 h2
  omega
theorem keysL_length (l : List Li) (a b : Int) : (keysL l a b).length ≤ l.length := by
  rw [keysL, List.length_map]
  exact List.length_filter_le _ _
end Go.Proofs.Ytocnpjmhkgnomaa
