
/- Rows of entries; how many bytes a list has, at this translation. -/
import Derived.Test.YtiomhdanmcnaeaaGreatDoorSn15
namespace Go.Proofs.YtiomhdanmcnaeaaGreatDoor
open Go.RowKit

abbrev Ent := List UInt8 × Int
def encN (e : Ent) : List Value := [.string (str e.1), .int .i64 e.2]
theorem encN_ok : Enc 2 encN := ⟨fun _ => rfl, by intro a u hu; simp [encN] at hu; rcases hu with rfl | rfl <;> rfl, by decide⟩
theorem nInfo0 : (Tryz.prog.info? 82).map (fun i => (i.zero, i.size, i.bytes)) = some (some (.agg #[.string ByteArray.empty, .int .i64 0]), 2, 24) := by kernel_rfl
theorem nInf : Inf 72 82 2 24 := ⟨Tryz.underlying72, by
  have h := nInfo0
  cases hq : Tryz.prog.info? 82 with
  | none => rw [hq] at h; cases h
  | some i0 =>
    rw [hq] at h
    simp only [Option.map_some, Option.some.injEq, Prod.mk.injEq] at h
    exact ⟨i0, _, rfl, h.1, h.2.1, h.2.2, rfl⟩⟩
theorem n_one (w : World) (z : Ent) (ty : TypeId) : IsG (w.alloc (.cells #[.string (str z.1), .int .i64 z.2] ty)) 2 encN (some ⟨w.heap.size, 0, none⟩) 1 [z] :=
  IsG.one (by simp) (fun j u hu => by
    rw [World.cell?_alloc_at _ _ _ _ rfl]
    match j, hu with
    | 0, hu => simpa [encN] using hu
    | 1, hu => simpa [encN] using hu
    | j + 2, hu => simp [encN] at hu)
theorem IsG.ent {w : World} {A : Option Addr} {n : Nat} {l : List Ent} (h : IsG w 2 encN A n l) {i : Nat} {z : Ent} (hi : l[i]? = some z) :
    ∃ g off, A = some ⟨g, off, none⟩ ∧ g < w.heap.size ∧ w.cell? ⟨g, off + i * 2, none⟩ = some (.string (str z.1)) ∧ w.cell? ⟨g, off + i * 2 + 1, none⟩ = some (.int .i64 z.2) := by
  have hil := (List.getElem?_eq_some_iff.1 hi).1
  obtain ⟨g, off, e, hg, hc⟩ := h.cells (by rw [← h.length]; omega)
  exact ⟨g, off, e, hg, hc i z 0 _ hi rfl, hc i z 1 _ hi rfl⟩
/-- How many bytes a list has. -/
def sizeN (l : List Ent) : Nat := (l.map fun e => e.1.length + 6).sum
theorem sizeN_step {l : List Ent} {k : Nat} {z : Ent} (h : l[k]? = some z) : sizeN (l.take (k + 1)) = sizeN (l.take k) + (z.1.length + 6) := by
  obtain ⟨h1, h2⟩ := List.getElem?_eq_some_iff.1 h
  rw [List.take_succ_eq_append_getElem h1, h2, sizeN, sizeN, List.map_append, List.sum_append]
  simp
theorem sizeN_le {l : List Ent} {m : Nat} (h : ∀ e ∈ l, e.1.length ≤ m) : sizeN l ≤ (m + 6) * l.length := by
  induction l with
  | nil => simp [sizeN]
  | cons a l ih =>
    have h1 := ih (fun e he => h e (List.mem_cons_of_mem _ he))
    have h2 := h a (by simp)
    have : sizeN (a :: l) = (a.1.length + 6) + sizeN l := by simp [sizeN]
    rw [this, List.length_cons, Nat.mul_add]
    omega
set_option maxRecDepth 100000 in
set_option maxHeartbeats 1000000 in
theorem Size_any (l : List Ent) (A : Option Addr) (n c : Nat) (w : World) (h : IsG w 2 encN A n l) (hs : ∀ e ∈ l, e.1.length ≤ 1000) (hn : n ≤ 1000) :
    Calls Tryz.prog 64 #[.slice A n c] w fun e w' => e = .returned (.int .i64 (sizeN l : Int)) ∧ Below w.heap.size w w' := by
  have Hl := Lib.hid h
  have Hs := Lib.hid hs
  have hln := h.length
  clear h hs
  go_enter Tryz.func64, Tryz.ntmps64
  go_wp2
  go_loopw [3, 8] (fun s i wr => ∃ (k S q : Nat), k ≤ n ∧ i = .int .i64 (k : Int) ∧ s = .int .i64 (S : Int) ∧ Hid (sizeN (l.take k) = S) ∧ Hid (Below w.heap.size w wr)) (fun _ i _ => n - (intOf i).toNat)
  case atStart => exact ⟨0, 0, 0, by omega, rfl, rfl, Lib.hid rfl, Lib.hid (Below.refl _ _)⟩
  case round =>
    obtain ⟨k, S, _, hk, rfl, rfl, HS, HB⟩ := hrel
    by_cases hlt : k < n
    · have hltI : (k : Int) < (n : Int) := by omega
      obtain ⟨z, hz⟩ : ∃ z, l[k]? = some z := ⟨_, List.getElem?_eq_getElem (by rw [hln]; exact hlt)⟩
      obtain ⟨g, off, rfl, hg, e0, e1⟩ := (Hl.out.below HB.out).ent hz
      have hzl : z.1.length ≤ 1000 := Hs.out z (List.mem_of_getElem? hz)
      have hS : S ≤ 1006 * k := by
        have h1 := sizeN_le (l := l.take k) (m := 1000) (fun e he => Hs.out e (List.mem_of_mem_take he))
        rw [HS.out, List.length_take] at h1
        have : min k l.length ≤ k := Nat.min_le_left _ _
        omega
      have Hn : Hid (sizeN (l.take (k + 1)) = S + (z.1.length + 6)) := Lib.hid (by rw [sizeN_step hz, HS.out])
      obtain ⟨L, HL⟩ : ∃ L, Hid (z.1.length = L) := ⟨_, Lib.hid rfl⟩
      have hL := HL.out
      rw [hL] at Hn hzl
      have w1 : IntKind.i64.wrap ((L : Int) + 6) = (L : Int) + 6 := IntWalk.i64_in _ (by omega)
      have w2 : IntKind.i64.wrap ((S : Int) + ((L : Int) + 6)) = (S : Int) + ((L : Int) + 6) := IntWalk.i64_in _ (by omega)
      have HBa : Hid (∀ o, Below w.heap.size w (wr.alloc o)) := Lib.hid (fun o => balloc HB.out o)
      clear hz
      go_wp2_with fail
      exact ⟨⟨k + 1, S + (L + 6), 0, by omega, by go_num, by congr 1, Hn, Lib.hid (HBa.out _)⟩, by simp [intOf]; omega⟩
    · have hltI : ¬ (k : Int) < (n : Int) := by omega
      have hS : S = sizeN l := by rw [← HS.out, List.take_of_length_le (by omega)]
      subst hS
      go_wp2
      go_ret
      exact ⟨rfl, HB.out⟩
end Go.Proofs.YtiomhdanmcnaeaaGreatDoor
