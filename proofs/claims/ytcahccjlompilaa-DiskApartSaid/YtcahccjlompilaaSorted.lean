/- slices.Sorted(maps.Keys(m)) at a map that is known by what it holds: the keys, in order, each once. -/
import Derived.Test.YtcahccjlompilaaKeys
import Derived.Test.YtcahccjlompilaaShelf
import Derived.Test.YtcahccjlompilaaMapI
namespace Go.Proofs.Ytcahccjlompilaa
open Go.RowKit Go.MapKept Go.Sort Go.Shelf
open Go.WideElems (Fit rd rg pl rd_key rd_val rg_of rd_mk)

theorem sortsI (m : Nat) : AnyZI.SortsIn Try.prog Try.sorted_ren Fence.wide m :=
  ⟨fun blk off cap ss W hH hblk hsz => callsIn_wide.2 (Try.slices_Sort_int blk off cap ss W hH hblk hsz),
   fun p cap W => callsIn_wide.2 (Try.slices_Sort_int_none p cap W)⟩
theorem maps_Keys_any (mb : Option Nat) (W : World) : CallsIn Fence.wide 5 Try.prog 56 #[.map mb] W fun e w' => e = .returned (.func (.func 70) #[] #[.pointer (some ⟨W.heap.size, 0, none⟩)]) ∧ w' = W.alloc (.cells #[.map mb] 65) :=
  AnyZI.keys_in Try.keys Fence.wide 5 trivial rfl mb W
set_option maxHeartbeats 1000000 in
theorem Sorted_keys (b nn : Nat) (D0 : DataW Unit) (w : World) (hown : w.ownsMap Try.prog 3 any0 b nn D0) (hmax : Maps.size D0 ≤ maxLen) (hbytes : Maps.size D0 * 8 ≤ 140737488355328) :
    CallsIn Fence.wide 5 Try.prog 55 #[.func (.func 70) #[] #[.pointer (some ⟨w.heap.size, 0, none⟩)]] (w.alloc (.cells #[.map (some b)] 65)) fun e w' => ∃ (v : Value) (ss : List Int), e = .returned v ∧ ss.Perm (intKeys D0) ∧
      w'.ownsRow (w.alloc (.cells #[.map (some b)] 65)).heap.size 3 1 v ss.length ((ss.mergeSort (fun x y => decide (x ≤ y))).map encZ) ∧ (v = .slice none 0 0 ↔ ss = []) ∧ Below (w.alloc (.cells #[.map (some b)] 65)).heap.size (w.alloc (.cells #[.map (some b)] 65)) w' := by
  have hbl := hown.lt
  have hseq : SeqGives Fence.wide 2 Try.prog 70 #[.pointer (some ⟨w.heap.size, 0, none⟩)] encZ (fun ss => ss.Perm (intKeys D0)) (Maps.size D0) (w.alloc (.cells #[.map (some b)] 65)) :=
    AnyZI.keys_gives (ρ := Try.keys_ren) { Try.keys with } Fence.wide _ trivial rfl (by omega) w.heap.size b nn D0 _ (by simp) (by simp) (by
      obtain ⟨es, clock, hb, Ft, hs, hD⟩ := hown
      exact ⟨es, clock, (Below.heap_alloc _ _ b hbl).trans hb, Ft, hs, hD⟩)
  exact AnyZI.sorted_in Try.sorted Fence.wide 5 trivial trivial trivial trivial rfl (by omega) (sortsI _) (enters_of Try.func69 (by kernel_rfl) rfl) 70 #[.pointer (some ⟨w.heap.size, 0, none⟩)] trivial (enters_of Try.func70 (by kernel_rfl) rfl) _ _ hmax hbytes _ hseq
/-- The keys that a map has, in order. -/
def KeysOf (f : Int → Option Value) (ks : List Int) : Prop := ks.Pairwise (· < ·) ∧ ∀ k, k ∈ ks ↔ f k ≠ none
theorem IsMap.keys {w : World} {b n : Nat} {f : Int → Option Value} (h : IsMap w b n f) : ∃ D0 : DataW Unit, w.ownsMap Try.prog 3 any0 b n D0 ∧ Maps.size D0 ≤ n ∧
    ∀ ss : List Int, ss.Perm (intKeys D0) → KeysOf f (ss.mergeSort leI) ∧ ss.length ≤ n := by
  obtain ⟨es, clock, h1, h2, h3, h4, h5⟩ := h
  have hown : w.ownsMap Try.prog 3 any0 b n (.map ((es.toList.map (rg Try.prog 3 any0)).foldr DataW.insert [])) := ⟨es, clock, h1, h2, h3, rfl⟩
  have hlen : ((es.toList.map (rg Try.prog 3 any0)).foldr DataW.insert []).length = es.size := by rw [length_sorted]; simp
  have hsz : Maps.size (.map ((es.toList.map (rg Try.prog 3 any0)).foldr DataW.insert []) : DataW Unit) ≤ n := by rw [Maps.size_eq, hlen]; exact h3
  refine ⟨_, hown, hsz, fun ss hp => ?_⟩
  obtain ⟨es', hD, hpw, _⟩ := hown.entries keyI
  obtain ⟨es2, hD2, hko⟩ := hown.keysOf
  injection hD with hD
  injection hD2 with hD2
  rw [← hD] at hpw
  rw [← hD2] at hko
  have hmem : ∀ k, k ∈ intKeys (.map ((es.toList.map (rg Try.prog 3 any0)).foldr DataW.insert []) : DataW Unit) ↔ f k ≠ none := by
    intro k
    show k ∈ List.map _ _ ↔ _
    rw [List.mem_map]
    constructor
    · rintro ⟨p, hp, rfl⟩
      obtain ⟨x, hx, rfl⟩ := List.mem_map.1 (mem_sorted.1 hp)
      obtain ⟨i, hw, hi, hf⟩ := h4 x hx
      obtain ⟨y, hy⟩ := h2.reads x hx
      have m1 := rd_key hy
      rw [hi, keyI_mk hw] at m1
      rw [rg_of hy, ← Option.some.inj m1]
      show f i ≠ none
      rw [hf]; simp
    · intro hk
      cases hf : f k with
      | none => exact absurd hf hk
      | some v =>
        obtain ⟨x, hx, hxk, hxv⟩ := h5 k v hf
        obtain ⟨i, hw, hi, _⟩ := h4 x hx
        rw [hxk] at hi
        have e2 := vint hi
        subst e2
        obtain ⟨y, hy⟩ := h2.reads x hx
        have m1 := rd_key hy
        rw [hxk, keyI_mk hw] at m1
        exact ⟨rg Try.prog 3 any0 x, mem_sorted.2 (List.mem_map.2 ⟨x, hx, rfl⟩), by rw [rg_of hy, ← Option.some.inj m1]; rfl⟩
  have hnd : (intKeys (.map ((es.toList.map (rg Try.prog 3 any0)).foldr DataW.insert []) : DataW Unit)).Nodup := by
    show (List.map _ _).Nodup
    refine List.pairwise_map.2 (hpw.imp_of_mem fun {p q} hp' hq' hne e => hne ?_)
    obtain ⟨v, hv⟩ := hko p hp'
    obtain ⟨a, _, ha, _⟩ := Maps.keyOf_i64 Try.underlying3 hv
    obtain ⟨v', hv'⟩ := hko q hq'
    obtain ⟨c, _, hc, _⟩ := Maps.keyOf_i64 Try.underlying3 hv'
    rw [ha, hc] at e ⊢
    exact congrArg _ e
  have tr : ∀ a b c : Int, leI a b = true → leI b c = true → leI a c = true := fun a b c h1 h2 => by simp only [leI, decide_eq_true_eq] at *; exact Int.le_trans h1 h2
  have tot : ∀ a b : Int, (leI a b || leI b a) = true := fun a b => by simp only [leI, Bool.or_eq_true, decide_eq_true_eq]; exact Int.le_total a b
  have hp2 : (ss.mergeSort leI).Perm (intKeys (.map ((es.toList.map (rg Try.prog 3 any0)).foldr DataW.insert []) : DataW Unit)) := (List.mergeSort_perm ss leI).trans hp
  refine ⟨⟨?_, fun k => by rw [hp2.mem_iff, hmem]⟩, ?_⟩
  · have hle := List.pairwise_mergeSort tr tot ss
    have hne : (ss.mergeSort leI).Pairwise (· ≠ ·) := hp2.nodup_iff.2 hnd
    refine (hle.and hne).imp fun {a c} ⟨h1, h2⟩ => ?_
    simp only [leI, decide_eq_true_eq] at h1
    omega
  · rw [hp.length_eq]
    show (List.map _ _).length ≤ n
    rw [List.length_map, hlen]
    exact h3
theorem KeysOf.only {f : Int → Option Value} {ks ks' : List Int} (h : KeysOf f ks) (h' : ks'.Pairwise (· < ·)) (hm : ∀ k, k ∈ ks' ↔ f k ≠ none) : ks = ks' :=
  List.Perm.eq_of_pairwise (le := fun a b => a < b) (fun a b _ _ h1 h2 => by omega) h.1 h' ((List.perm_ext_iff_of_nodup (h.1.imp fun h => by omega) (h'.imp fun h => by omega)).2 fun k => by rw [h.2, hm])
end Go.Proofs.Ytcahccjlompilaa
