/- The disk's New. -/
import Derived.Test.YtcahccjlompilaaRepeat
namespace Go.Proofs.Ytcahccjlompilaa
open Go.RowKit Go.MapKept

def zero512 : List UInt8 := List.replicate 512 0
theorem zero512_length : zero512.length = 512 := List.length_replicate
theorem Repeat512_any (w : World) :
    Calls Try.prog 43 #[.string ⟨#[0]⟩, .int .i64 512] w fun e w' => e = .returned (.string (str zero512)) ∧ Below w.heap.size w w' := by
  have h := Try.strings_Repeat ⟨#[0]⟩ 512 w (by omega) (by simp [ByteArray.size])
  rw [show (⟨#[0]⟩ : ByteArray).data.toList = [0] from rfl, repeatL_one] at h
  exact h
/-- A new disk. -/
def DS.new (m : Nat) : DS := ⟨List.replicate m zero512, fun _ => 0, fun _ => [], []⟩
theorem DS.new_length (m : Nat) : (DS.new m).lies.length = m := List.length_replicate
/-- How many sectors a new disk has. -/
def sectorsN (n : Int) : Nat := (min (max n 1) 65536).toNat
def NewD (w : World) (m : Nat) (e : Ending) (w' : World) : Prop :=
  ∃ b ρ, e = .returned (.pointer (some ⟨b, 0, none⟩)) ∧ IsD w' b ρ 0 (DS.new m) ∧ (∀ g, ρ g ≠ .no → w.heap.size ≤ g) ∧ Below w.heap.size w w'
theorem new_isD (w3 : World) (g m : Nat) (hm1 : 1 ≤ m) (hm2 : m ≤ 65536) (hg : w3.heap[g]? = some (.cells (List.replicate m (Value.string (str zero512))).toArray 9 (0, 0))) :
    ∃ ρ, IsD (((w3.alloc (.map #[] 0)).alloc (.map #[] 0)).alloc (.cells #[.slice (some ⟨g, 0, none⟩) m m, .map (some w3.heap.size), .map (some (w3.heap.size + 1)), .slice none 0 0] 67)) (w3.heap.size + 2) ρ 0 (DS.new m) ∧ (∀ i, ρ i ≠ .no → i = g ∨ w3.heap.size ≤ i) := by
  have hgl : g < w3.heap.size := (Array.getElem?_eq_some_iff.1 hg).1
  obtain ⟨K, hK⟩ : ∃ K, w3.heap.size = K := ⟨_, rfl⟩
  rw [hK] at hgl ⊢
  refine ⟨fun i => if i = K + 2 then .head else if i = g then .lies else if i = K then .keys else if i = K + 1 then .caches else .no, ⟨g, K, K + 1, .slice none 0 0, fun _ => none, ?_⟩, fun i hi => ?_⟩
  · have m1 : Below w3.heap.size w3 (w3.alloc (.map #[] 0)) := (Below.refl _ _).alloc (Nat.le_refl _) _
    have m2 : Below (w3.alloc (.map #[] 0)).heap.size (w3.alloc (.map #[] 0)) ((w3.alloc (.map #[] 0)).alloc (.map #[] 0)) := (Below.refl _ _).alloc (Nat.le_refl _) _
    have m3 : Below ((w3.alloc (.map #[] 0)).alloc (.map #[] 0)).heap.size ((w3.alloc (.map #[] 0)).alloc (.map #[] 0)) (((w3.alloc (.map #[] 0)).alloc (.map #[] 0)).alloc (.cells #[.slice (some ⟨g, 0, none⟩) m m, .map (some K), .map (some (K + 1)), .slice none 0 0] 67)) := (Below.refl _ _).alloc (Nat.le_refl _) _
    have k1 : IsMap (w3.alloc (.map #[] 0)) K 0 (fun _ => none) := hK ▸ IsMap.made w3
    have k2 : IsMap ((w3.alloc (.map #[] 0)).alloc (.map #[] 0)) (K + 1) 0 (fun _ => none) := by
      have := IsMap.made (w3.alloc (.map #[] 0))
      rw [World.size_alloc, hK] at this
      exact this
    have hcell : ∀ j, j < m → w3.cell? ⟨g, j, none⟩ = some (.string (str zero512)) := fun j hj => by
      rw [cell_of_row w3 g j _ _ _ hg]
      simp [hj]
    have hfz : ∀ j, w3.frozen? ⟨g, j, none⟩ = false := fun j => by simp [World.frozen?, hg]
    have sz : ((w3.alloc (.map #[] 0)).alloc (.map #[] 0)).heap.size = K + 2 := by simp [hK]
    have bb := bnext (bnext m1 m2) m3
    rw [hK] at bb
    refine ⟨?_, ?_, ?_, ?_, ?_, by simp, ?_, ?_, ?_, fun i hi => ?_, fun i hi => ?_, ?_, ?_, fun _ _ => rfl, (fun k v hv => by cases hv), row_nil _ _, (fun g hg => by cases hg), fun i hi => ?_, ?_⟩
    · rw [DS.new_length]
      rw [World.cell?_alloc_at _ _ _ _ (by rw [sz])]; rfl
    · rw [World.cell?_alloc_at _ _ _ _ (by rw [sz])]; rfl
    · rw [World.cell?_alloc_at _ _ _ _ (by rw [sz])]; rfl
    · rw [World.cell?_alloc_at _ _ _ _ (by rw [sz])]; rfl
    · exact World.frozen?_alloc_at _ _ _ _ (by rw [sz])
    · rw [if_neg (by omega), if_pos rfl]
    · rw [if_neg (by omega), if_neg (by omega), if_pos rfl]
    · rw [if_neg (by omega), if_neg (by omega), if_neg (by omega), if_pos rfl]
    · rw [DS.new_length] at hi
      rw [bb.cell (p := ⟨g, i, none⟩) hgl, hcell i hi]
      simp [DS.new]
    · rw [DS.new_length] at hi
      rw [bb.frozen (p := ⟨g, i, none⟩) hgl]
      exact hfz i
    · exact (k1.block (m2.block K (by simp [hK]))).block (m3.block K (by simp [hK]; omega))
    · exact k2.block (m3.block (K + 1) (by simp [hK]))
    · simp only [World.size_alloc, hK]
      simp only [ne_eq] at hi
      rcases Nat.lt_or_ge i (K + 3) with h | h
      · omega
      · rw [if_neg (by omega), if_neg (by omega), if_neg (by omega), if_neg (by omega)] at hi
        exact absurd rfl hi
    · refine ⟨by rw [DS.new_length]; omega, by rw [DS.new_length]; omega, fun l hl => ?_, fun _ => Nat.zero_le _, (fun _ p hp => by cases hp), Nat.zero_le _, by omega, fun _ => .inl rfl, (fun k hk => by cases hk)⟩
      rw [List.eq_of_mem_replicate hl]
      exact zero512_length
  · simp only [ne_eq] at hi
    rcases Nat.lt_or_ge i K with h | h
    · by_cases e : i = g
      · exact .inl e
      · rw [if_neg (by omega), if_neg e, if_neg (by omega), if_neg (by omega)] at hi
        exact absurd rfl hi
    · exact .inr h
set_option maxRecDepth 100000 in
theorem New_any (n : Int) (hn : (Lit.int .i64 n).wf = true) (w : World) : Calls Try.prog 11 #[.int .i64 n] w (NewD w (sectorsN n)) := by
  have hn2 := bounds_i64 hn
  clear hn
  obtain ⟨m, Hm⟩ : ∃ m, Hid (sectorsN n = m) := ⟨_, Lib.hid rfl⟩
  have hm : min (max n 1) 65536 = (m : Int) ∧ 1 ≤ m ∧ m ≤ 65536 := by have := Hm.out; unfold sectorsN at this; omega
  obtain ⟨hm, hm1, hm2⟩ := hm
  have Hmm := Lib.hid hm
  clear hm
  rw [Hm.out]
  have hmk := @run_makeMap Try.prog
  go_enter Try.func11, Try.ntmps11
  go_wp2_with fail
  refine (Repeat512_any _).mono ?_
  rintro e w1 ⟨rfl, hb1⟩
  have Hb1 := Lib.hid hb1
  clear hb1
  go_wp2_with fail
  rw [Hmm.out]
  refine (Repeat_any _ zero512 m hm1 hm2 _ (by simp [go_sem])).mono ?_
  rintro e w3 ⟨g, rfl, hg, hrow, hb3⟩
  obtain ⟨ρ, hD, hρ⟩ := new_isD w3 g m hm1 hm2 hrow
  have HD := Lib.hid hD
  have Hrow := Lib.hid hrow
  have Hb3 := Lib.hid (bnext (balloc Hb1.out _) hb3)
  have Hg := Lib.hid hg
  have Hs1 := Lib.hid Hb1.out.size
  have Hρ := Lib.hid hρ
  clear hD hb3 hg hρ hrow
  go_wp2
  go_ret
  refine ⟨_, ρ, rfl, HD.out, fun i hi => ?_, balloc (balloc (balloc Hb3.out _) _) _⟩
  have h1 := Hs1.out
  have h2 := Hg.out
  have h3 := Hb3.out.size
  rcases Hρ.out i hi with rfl | h
  · simp at h2; omega
  · omega
end Go.Proofs.Ytcahccjlompilaa
