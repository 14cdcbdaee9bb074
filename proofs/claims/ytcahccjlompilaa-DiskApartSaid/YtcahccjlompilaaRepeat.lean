/- slices.Repeat at a row of one text: so many of it, in a new block. And the disk's New. -/
import Derived.Test.YtcahccjlompilaaDiskTo
import Derived.Test.YtcahccjlompilaaShelf
import Derived.Laws.CopyOwn
import Derived.Deep.RegionLaw
import Derived.Deep.LoopGhost
namespace Go.Proofs.Ytcahccjlompilaa
open Go.RowKit Go.MapKept

/-- k texts, and behind them none. -/
def filled (s : List UInt8) (n k : Nat) : List Value := List.replicate k (Value.string (str s)) ++ List.replicate (n - k) (Value.string ByteArray.empty)
theorem filled_length (s : List UInt8) (n k : Nat) (h : k ≤ n) : (filled s n k).length = n := by simp [filled]; omega
theorem filled_more (s : List UInt8) (n k m : Nat) (h : k + m ≤ n) : splice (filled s n k) k (List.replicate m (Value.string (str s))) = filled s n (k + m) := by
  unfold splice filled
  have h1 : (List.replicate k (Value.string (str s)) ++ List.replicate (n - k) (Value.string ByteArray.empty)).take k = List.replicate k (Value.string (str s)) := by
    rw [List.take_append_of_le_length (by simp), List.take_of_length_le (by simp)]
  have h2 : (List.replicate k (Value.string (str s)) ++ List.replicate (n - k) (Value.string ByteArray.empty)).drop (k + (List.replicate m (Value.string (str s))).length) = List.replicate (n - (k + m)) (Value.string ByteArray.empty) := by
    rw [List.length_replicate, List.drop_append, List.drop_of_length_le (by simp), List.nil_append, List.length_replicate, List.drop_replicate, show n - k - (k + m - k) = n - (k + m) by omega]
  rw [h1, h2, ← List.append_assoc, List.replicate_append_replicate]
theorem mkS (w : World) (x : Nat) (h1 : x ≤ 65536) : (Instr.makeSlice 50 (.int .i64 (x : Int)) (.int .i64 (x : Int))).run Try.prog w = .ok (.slice (some ⟨w.heap.size, 0, none⟩) x x) (w.alloc (.cells (Array.replicate x (Value.string ByteArray.empty)) 9)) := by
  have hinfo : (Try.prog.info? 9).map (fun i => (i.zero, i.size, i.bytes)) = some (some (.string ByteArray.empty), 1, 16) := by kernel_rfl
  obtain ⟨i0, hi, hz0, hz1, hz2⟩ := info_parts hinfo
  have h := run_make (P := Try.prog) w 50 9 i0 (.string ByteArray.empty) Try.underlying50 hi hz0 .i64 .i64 x x (by omega) (Int.le_refl _) (by rw [hz2]; omega) (by omega)
  have e : madeCells (Value.string ByteArray.empty).cells ((x : Int).toNat * i0.size) = (Array.replicate x (Value.string ByteArray.empty)) := by
    rw [hz1, Int.toNat_natCast]
    apply Array.ext
    · simp [madeCells]
    · intro j h1 h2; simp [madeCells, Value.cells, Nat.mod_one]
  rw [e, Int.toNat_natCast] at h
  exact h
/-- A new slice of so many times one text. -/
def Many (w : World) (s : List UInt8) (n : Nat) (e : Ending) (w' : World) : Prop :=
  ∃ g, e = .returned (.slice (some ⟨g, 0, none⟩) n n) ∧ w.heap.size ≤ g ∧ w'.heap[g]? = some (.cells (List.replicate n (Value.string (str s))).toArray 9 (0, 0)) ∧ Below w.heap.size w w'
theorem Mul1_any (n : Nat) (h2 : n ≤ 65536) (w : World) :
    Calls Try.prog 58 #[.int .u64 1, .int .u64 (n : Int)] w fun e w' => e = .returned (.tuple #[.int .u64 0, .int .u64 (n : Int)]) ∧ w = w' := by
  refine (Try.bits_Mul 1 n (by omega) (by omega) w).mono ?_
  rintro e w1 ⟨rfl, h⟩
  rw [show 1 * n / 18446744073709551616 = 0 by omega, show 1 * n % 18446744073709551616 = n by omega]
  exact ⟨rfl, h.symm⟩
set_option maxRecDepth 100000 in
set_option maxHeartbeats 400000 in
theorem Repeat_any (g0 : Nat) (s : List UInt8) (n : Nat) (h1 : 1 ≤ n) (h2 : n ≤ 65536) (w : World) (hc : w.cell? ⟨g0, 0, none⟩ = some (.string (str s))) :
    Calls Try.prog 42 #[.slice (some ⟨g0, 0, none⟩) 1 1, .int .i64 (n : Int)] w (Many w s n) := by
  have hmk := fun w => mkS w n h2
  have hinfo : (Try.prog.info? 9).map (·.size) = some 1 := by kernel_rfl
  obtain ⟨B, HB⟩ : ∃ B, Hid (w.heap.size = B) := ⟨_, Lib.hid rfl⟩
  have hg0 := lt_of_cell hc
  have Hc := Lib.hid hc
  clear hc
  go_enter Try.func42, Try.ntmps42
  go_wp2_with fail
  refine (Mul1_any n h2 _).mono ?_
  rintro e w1 ⟨rfl, rfl⟩
  rw [HB.out] at hg0
  obtain ⟨wz, Hwz⟩ : ∃ wz, Hid (w.alloc (.cells (Array.replicate n (Value.string ByteArray.empty)) 9) = wz) := ⟨_, Lib.hid rfl⟩
  have Hbz := Lib.hid ((Below.refl w.heap.size w).alloc (Nat.le_refl _) (.cells (Array.replicate n (Value.string ByteArray.empty)) 9))
  have Hhz : Hid ((w.alloc (.cells (Array.replicate n (Value.string ByteArray.empty)) 9)).heap[B]? = some (.cells (filled s n 0).toArray 9 (0, 0))) := Lib.hid (by
    rw [← HB.out, (MapKept.heap_alloc w _).1]
    simp [filled])
  have Hcz : Hid ((w.alloc (.cells (Array.replicate n (Value.string ByteArray.empty)) 9)).cell? ⟨g0, 0, none⟩ = some (.string (str s))) := Lib.hid ((Hbz.out.cell (p := ⟨g0, 0, none⟩) (lt_of_cell Hc.out)).trans Hc.out)
  rw [Hwz.out] at Hbz Hhz Hcz
  go_wp2_with (with_reducible refine wpList_copy_splice rfl (.tmp 31) (.tmp 32) 50 50 rfl 9 Try.underlying50 hinfo (some ⟨w.heap.size, 0, none⟩) (some ⟨g0, 0, none⟩) n n 1 1 rfl rfl B 0 (filled s n 0) 9 ?c1 [.string (str s)] ?c2 ?c3 ?c4 ?c5 w.heap.size w ?c6 ?c7 ?_)
  case c1 => rw [Hwz.out]; exact Hhz.out
  case c2 => show 1 = min 1 n; omega
  case c3 =>
    intro _
    refine ⟨by rw [HB.out], _, rfl, fun j v hj => ?_⟩
    match j, hj with
    | 0, hj =>
      simp at hj
      subst hj
      rw [add_plain, Hwz.out]
      exact Hcz.out
  case c4 => rw [filled_length _ _ _ (Nat.zero_le _)]; simpa using h1
  case c5 => intro v hv; simp at hv; subst hv; rfl
  case c6 => rw [Hwz.out]; exact Hbz.out
  case c7 => have := HB.out; omega
  intro w2 hcur hb2
  have Hcur := Lib.hid (filled_more s n 0 1 (by omega) ▸ hcur.out)
  have Hb2 := Lib.hid hb2
  clear hcur hb2
  rw [HB.out]
  go_wp2
  go_loopg [8] n (fun g s8 wr => ∃ k : Nat, s8 = .int .i64 (k : Int) ∧ 1 ≤ k ∧ k ≤ n ∧ n ≤ k + g ∧ Hid (wr.heap[B]? = some (.cells (filled s n k).toArray 9 (0, 0))) ∧ Hid (Below w.heap.size w wr))
  case atStart => exact ⟨1, rfl, Nat.le_refl _, h1, by omega, Hcur, Hb2⟩
  case round =>
    obtain ⟨k, rfl, hk1, hkn, hg, Hk, Hbk⟩ := hrel
    by_cases hlt : k < n
    · have h9 : (k : Int) ≤ (n : Int) := by omega
      have h8 : 0 ≤ (k : Int) := by omega
      have h7 : ¬ (n = k) := by omega
      obtain ⟨m, Hm⟩ : ∃ m, Hid (min k (n - k) = m) := ⟨_, Lib.hid rfl⟩
      have hm1 : k + m ≤ n := by have := Hm.out; omega
      have hm0 : 1 ≤ m := by have := Hm.out; omega
      have hmk' : m ≤ k := by have := Hm.out; omega
      have Hcd : Hid (∀ j v, (List.replicate m (Value.string (str s)))[j]? = some v → wr.cell? ⟨B, j, none⟩ = some v) := Lib.hid fun j v hj => by
        have h := (List.getElem?_eq_some_iff.1 hj)
        obtain ⟨hj1, hj2⟩ := h
        simp at hj1 hj2
        subst hj2
        rw [cell_of_row wr B j _ 9 (0, 0) Hk.out]
        simp [filled, List.getElem?_append, show j < k by omega]
      go_wp2
      have Hk2 : Hid (wr.drew.heap[B]? = some (.cells (filled s n k).toArray 9 (0, 0))) := Lib.hid Hk.out
      have Hbk2 : Hid (Below w.heap.size w wr.drew) := Lib.hid Hbk.out.drew
      have Hd2 : Hid ((List.replicate m (Value.string (str s))).length = Nat.min k (n - k)) := Lib.hid (by rw [List.length_replicate]; exact Hm.out.symm)
      have Hd3 : Hid (0 < (List.replicate m (Value.string (str s))).length → (some (⟨B, k, none⟩ : Addr) = some ⟨B, k, none⟩ ∧ ∃ ad, (some ⟨B, 0, none⟩ : Option Addr) = some ad ∧ ∀ j v, (List.replicate m (Value.string (str s)))[j]? = some v → wr.drew.cell? (ad.add j) = some v)) := Lib.hid fun _ => ⟨rfl, _, rfl, fun j v hj => by
        rw [add_plain, Nat.zero_add]
        exact Hcd.out j v hj⟩
      have Hd4 : Hid (k + (List.replicate m (Value.string (str s))).length ≤ (filled s n k).length) := Lib.hid (by rw [filled_length _ _ _ hkn, List.length_replicate]; exact hm1)
      have Hd5 : Hid (∀ v ∈ List.replicate m (Value.string (str s)), v.oneCell' = true) := Lib.hid fun v hv => by rw [List.eq_of_mem_replicate hv]; rfl
      have Hd7 : Hid (w.heap.size ≤ B) := Lib.hid (by have := HB.out; omega)
      go_region_law ((refine step_copy_splice rfl (.tmp 41) (.tmp 44) 50 50 rfl 9 Try.underlying50 hinfo (some ⟨B, k, none⟩) (some ⟨B, 0, none⟩) (n - k) (n - k) k n (by simp [Act.eval, Act.put]) (by simp [Act.eval, Act.put]) B k (filled s n k) 9 Hk2.out (List.replicate m (.string (str s))) Hd2.out Hd3.out Hd4.out Hd5.out w.heap.size w Hbk2.out Hd7.out ?_); intro w3 hc3 hb3)
      have Hc3 := Lib.hid (filled_more s n k m hm1 ▸ hc3.out)
      clear hc3
      rw [show IntKind.i64.wrap ((k : Int) + (m : Int)) = ((k + m : Nat) : Int) by rw [IntWalk.i64_in _ (by omega)]; omega]
      have Hb3 := Lib.hid hb3
      clear hb3
      go_wp2
      go_roundg (gk - 1)
      case rel => exact ⟨k + m, rfl, by omega, by omega, by omega, Hc3, Hb3⟩
      case measure => omega
    · obtain rfl : k = n := by omega
      go_wp2
      go_ret
      refine ⟨B, rfl, by have := HB.out; omega, ?_, Hbk.out⟩
      rw [Hk.out]
      simp [filled]
end Go.Proofs.Ytcahccjlompilaa
