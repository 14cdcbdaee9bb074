/- Rows of texts. -/
import Derived.Test.YtdlbibhekoobjaaGs11
namespace Go.Proofs.Ytdlbibhekoobjaa
open Go.RowKit

def encT (s : List UInt8) : List Value := [.string (str s)]
theorem encT_ok : Enc 1 encT := ⟨fun _ => rfl, by intro a u hu; simp [encT] at hu; subst hu; rfl, by decide⟩
theorem txInfo0 : (Try.prog.info? 9).map (fun i => (i.zero, i.size, i.bytes)) = some (some (.string ⟨#[]⟩), 1, 16) := by kernel_rfl
theorem txInf : Inf 43 9 1 16 := ⟨Try.underlying43, by
  have h := txInfo0
  cases hq : Try.prog.info? 9 with
  | none => rw [hq] at h; cases h
  | some i0 =>
    rw [hq] at h
    simp only [Option.map_some, Option.some.injEq, Prod.mk.injEq] at h
    exact ⟨i0, _, rfl, h.1, h.2.1, h.2.2, rfl⟩⟩
theorem tx_one (w : World) (s : List UInt8) (ty : TypeId) : IsG (w.alloc (.cells #[.string (str s)] ty)) 1 encT (some ⟨w.heap.size, 0, none⟩) 1 [s] :=
  IsG.one (by simp) (fun j u hu => by
    rw [World.cell?_alloc_at _ _ _ _ rfl]
    match j, hu with
    | 0, hu => simpa [encT] using hu
    | j + 1, hu => simp [encT] at hu)
/-- A text of a row. -/
theorem IsG.text {w : World} {A : Option Addr} {n : Nat} {l : List (List UInt8)} (h : IsG w 1 encT A n l) {i : Nat} {s : List UInt8} (hi : l[i]? = some s) :
    ∃ g off, A = some ⟨g, off, none⟩ ∧ w.cell? ⟨g, off + i, none⟩ = some (.string (str s)) := by
  have hil := (List.getElem?_eq_some_iff.1 hi).1
  obtain ⟨g, off, e, hg, hc⟩ := h.cells (by rw [← h.length]; omega)
  have c := hc i s 0 _ hi rfl
  rw [Nat.mul_one, Nat.add_zero] at c
  exact ⟨g, off, e, c⟩
end Go.Proofs.Ytdlbibhekoobjaa
