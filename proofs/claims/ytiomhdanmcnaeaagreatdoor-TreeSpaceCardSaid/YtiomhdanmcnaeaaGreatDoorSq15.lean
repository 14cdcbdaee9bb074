/- A path's names, at this translation. -/
import Derived.Test.YtiomhdanmcnaeaaGreatDoorSt15
namespace Go.Proofs.YtiomhdanmcnaeaaGreatDoor
open Go.RowKit

/-- What the library's searching asks: its own variable holds some number. -/
def Mx (w : World) : Prop := ∃ m : Int, w.cell? ⟨0, 0, none⟩ = some (.int .i64 m)
theorem CutYes_any (r : List UInt8) (w : World) :
    Calls Tryz.prog 89 #[.string (str (47 :: r)), .string ⟨#[47]⟩] w fun e w' => e = .returned (.tuple #[.string (str r), .bool true]) ∧ w' = w := by
  refine (Tryz.strings_CutPrefix (str (47 :: r)) ⟨#[47]⟩ w).mono ?_
  rintro e w1 ⟨rfl, rfl⟩
  refine ⟨?_, rfl⟩
  simp [str, Lib.trimPrefix, Lib.hasPrefix, List.isPrefixOf]
theorem CutNo_any (l : List UInt8) (h : ∀ r, l ≠ 47 :: r) (w : World) :
    Calls Tryz.prog 89 #[.string (str l), .string ⟨#[47]⟩] w fun e w' => e = .returned (.tuple #[.string (str l), .bool false]) ∧ w' = w := by
  refine (Tryz.strings_CutPrefix (str l) ⟨#[47]⟩ w).mono ?_
  rintro e w1 ⟨rfl, rfl⟩
  refine ⟨?_, rfl⟩
  have hp : Lib.hasPrefix l [47] = false := by
    rcases l with _ | ⟨x, t⟩
    · rfl
    · have : x ≠ 47 := fun e => h t (by rw [e])
      simp [Lib.hasPrefix, List.isPrefixOf, Ne.symm this]
  simp [str, Lib.trimPrefix, hp]
theorem splitB_str (r : List UInt8) (k : Nat) : Lib.splitB ⟨#[47]⟩ 0 k (str r) = (Lib.splitK [47] 0 k r).map str := by
  have h := Lib.splitB_data ⟨#[47]⟩ 0 k (str r)
  have h2 : (str r).data.toList = r := by simp [str]
  rw [h2] at h
  have h3 : (([47] : List UInt8)) = (⟨#[47]⟩ : ByteArray).data.toList := rfl
  rw [h3, ← h, List.map_map]
  rw [show (str ∘ fun x : ByteArray => x.data.toList) = id from funext fun x => by simp [str]]
  rw [List.map_id]
theorem SplitN_any (r : List UInt8) (hr : r.length ≤ 1000000) (w : World) (hm : Mx w) :
    Calls Tryz.prog 90 #[.string (str r), .string ⟨#[47]⟩, .int .i64 9] w fun e w' => ∃ c, e = .returned (.slice (some ⟨w.heap.size, 0, none⟩) (splitS r).length c) ∧ IsG w' 1 encT (some ⟨w.heap.size, 0, none⟩) (splitS r).length (splitS r) ∧ Below w.heap.size w w' := by
  obtain ⟨m, hm⟩ := hm
  refine (Tryz.strings_SplitN (str r) ⟨#[47]⟩ 9 m w (by rw [str_size]; omega) hm (by decide) (by decide) (by decide)).mono ?_
  rintro e w1 ⟨rfl, rfl⟩
  have hlen : (splitS r).length ≤ 9 := by
    have h := Lib.splitB_length_le ⟨#[47]⟩ 0 (min 9 (r.length + 1) - 1) (str r)
    rw [splitB_str, List.length_map] at h
    unfold splitS; omega
  rw [str_size, splitB_str, List.length_map]
  refine ⟨_, rfl, ⟨rfl, by unfold splitS at hlen; unfold splitS maxLen; omega, fun h0 => ⟨_, 0, rfl, by simp, ?_⟩⟩, balloc (Below.refl _ w) _⟩
  intro i a j u hi hj
  match j, hj with
  | j + 1, hj => simp [encT] at hj
  | 0, hj =>
    have hu : u = .string (str a) := by simpa [encT] using hj.symm
    subst hu
    rw [World.cell?_alloc_at _ _ _ _ rfl]
    have hil := (List.getElem?_eq_some_iff.1 hi).1
    rw [Lib.cellsOf, List.getElem?_toArray, List.getElem?_append_left (by simpa [splitS] using hil)]
    simp only [List.getElem?_map]
    rw [show 0 + i * 1 + 0 = i by omega]
    rw [show Lib.splitK [47] 0 (min 9 (r.length + 1) - 1) r = splitS r from rfl, hi]
    rfl
end Go.Proofs.YtiomhdanmcnaeaaGreatDoor
