/- Rows of texts of a call's own; one of them taken out. -/
import Derived.Test.YtakhhpakajafkaaRow
import Derived.Test.YtakhhpakajafkaaDel
namespace Go.Proofs.Ytakhhpakajafkaa
open Go.RowKit Go.Lib Go.Sort

/-- Texts as cells. -/
def sv (l : List (List UInt8)) : List Value := l.map fun s => .string (str s)
theorem sv_get {l : List (List UInt8)} {i : Nat} (h : i < l.length) : (sv l)[i]? = some (.string (str l[i])) := by simp [sv, List.getElem?_eq_getElem h]
theorem sv_append (l m : List (List UInt8)) : sv (l ++ m) = sv l ++ sv m := by simp [sv]
/-- A slice of texts of a call's own. -/
def Rw (w : World) (v : Value) (l : List (List UInt8)) : Prop := Row w 1 v l.length (sv l)
theorem Rw.later {S : Nat → Prop} {w w' : World} {v : Value} {l : List (List UInt8)} (h : Rw w v l) (m : Mod S w w') (hs : ∀ g, blk v = some g → ¬ S g) : Rw w' v l := Row.later h m hs
theorem Rw.slice {w : World} {v : Value} {l : List (List UInt8)} (h : Rw w v l) : ∃ a cap, v = .slice a l.length cap := by
  rcases h.is with ⟨rfl, h0⟩ | ⟨g, off, cap, rfl, _⟩
  · exact ⟨none, 0, by rw [h0]⟩
  · exact ⟨_, _, rfl⟩
theorem Rw.get {w : World} {v : Value} {l : List (List UInt8)} (h : Rw w v l) {i : Nat} (hi : i < l.length) : ∃ g off cap, v = .slice (some ⟨g, off, none⟩) l.length cap ∧ w.cell? ⟨g, off + i, none⟩ = some (.string (str l[i])) := by
  rcases h.is with ⟨rfl, h0⟩ | ⟨g, off, cap, rfl, _, _, _, hc, _⟩
  · omega
  · exact ⟨g, off, cap, rfl, hc i _ (sv_get hi)⟩
theorem erase_parts (l : List (List UInt8)) (i : Nat) : l.take i ++ l.drop (i + 1) = l.eraseIdx i := (List.eraseIdx_eq_take_drop_succ l i).symm
theorem Mod.putRow {S : Nat → Prop} (w : World) (q b off : Nat) (d : Array (List UInt8)) (hS : S b) : Mod S w (putRow encStr (Sort.ahead w q) b off d) := by
  refine ⟨rfl, rfl, rfl, by simp, fun k _ hk => ?_⟩
  have hne : b ≠ k := fun e => hk (e ▸ hS)
  simp only [Sort.putRow, mapBlock, Array.getElem?_modify, if_neg hne]
  rfl
theorem Delete_row {w : World} {v : Value} {l : List (List UInt8)} (h : Rw w v l) {i : Nat} (hi : i < l.length) :
    Calls Try.prog 45 #[v, .int .i64 (i : Int), .int .i64 ((i : Int) + 1)] w fun e w' => ∃ v', e = .returned v' ∧ Rw w' v' (l.eraseIdx i) ∧ Mod (fun g => blk v = some g) w w' ∧ blk v' = blk v ∧ w'.heap.size = w.heap.size := by
  rcases h.is with ⟨rfl, h0⟩ | ⟨g, off, cap, rfl, hg, h1, h2, hc, hs, hf⟩
  · omega
  · have hH : Holds encStr w g off l.toArray := by
      intro j hj
      have hj' : j < l.length := by simpa using hj
      refine ⟨?_, hf j (by omega)⟩
      rw [hc j _ (sv_get hj')]
      simp [hj', encStr, str]
    have hd := AnyG.slices_Delete_string Try.del g off cap i (i + 1) l w hH h1 (by unfold maxLen at h2; omega) (by omega) (by omega)
    rw [show ((i + 1 : Nat) : Int) = (i : Int) + 1 by omega] at hd
    refine hd.mono ?_
    rintro e w' ⟨rfl, q, rfl⟩
    rw [erase_parts, show i + 1 - i = 1 by omega]
    have hel : (l.eraseIdx i).length = l.length - 1 := by rw [List.length_eraseIdx, if_pos hi]
    have hsz : (l.eraseIdx i ++ List.replicate 1 []).toArray.size = l.toArray.size := by simp [hel]; omega
    have hH2 := holds_putRow encStr (Sort.ahead w q) g off l.toArray (l.eraseIdx i ++ List.replicate 1 []).toArray (holds_ahead _ _ _ _ _ _ hH) hsz
    refine ⟨_, rfl, ⟨by simp [sv], .inr ⟨g, off, cap, by rw [hel], by simpa using hg, by omega, h2, fun j u hu => ?_, fun j hj => ?_, fun j hj => ?_⟩⟩, Mod.putRow w q g off _ rfl, rfl, by simp⟩
    · have hj := (List.getElem?_eq_some_iff.1 hu).1
      have hj' : j < (l.eraseIdx i).length := by simpa [sv] using hj
      rw [sv_get hj'] at hu
      rw [(hH2 j (by simp; omega)).1, ← hu]
      simp [List.getElem_append_left hj', encStr, str, show j < (l.eraseIdx i).length + 1 by omega]
    · rw [Nat.mul_one] at hj
      by_cases hj0 : j = 0
      · subst hj0
        have := (hH2 (l.eraseIdx i).length (by simp)).1
        rw [Nat.mul_one, Nat.add_zero, this]
        rfl
      · rw [cell?_putRow_other _ _ _ _ _ _ (.inr (.inr (by rw [hsz]; simp; omega)))]
        have := hs (j - 1) (by omega)
        rw [show off + (l.eraseIdx i).length * 1 + j = off + l.length * 1 + (j - 1) by omega]
        exact this
    · rw [frozen?_putRow]
      exact hf j hj
end Go.Proofs.Ytakhhpakajafkaa
