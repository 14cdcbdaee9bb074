/- Two lists of parcels that are the same. -/
import Derived.Test.YtakhhpakajafkaaParc
import Derived.Deep.QuietTactic
import Derived.BigQuiet
import Derived.Laws.StructEq
namespace Go.Proofs.Ytakhhpakajafkaa
open Go.RowKit

/-- One parcel more. -/
theorem Ps.more {B : Nat} {w w1 : World} {v v' : Value} {l : List Pcl} {p : Pcl} (h : Ps B w v l) (hB : B ≤ w.heap.size) {tmp : Obj}
    (hown : w1.ownsRow B 35 3 v' (l.length + 1) (pc l ++ pc1 p)) (hgrow : (w.alloc tmp).grownBy w1 v.ownBlock) : Ps B w1 v' (l ++ [p]) ∧ Below B w w1 := by
  refine ⟨?_, ((Below.refl B w).alloc hB tmp).grown hgrow (by simp; omega) fun j ej => ?_⟩
  · unfold Ps
    rw [List.length_append, pc_append, pc_one]
    exact hown
  · rcases h.2 with ⟨rfl, _⟩ | ⟨g, cap, cur, rfl, hb, _⟩
    · simp [Value.ownBlock] at ej
    · obtain rfl : g = j := by simpa [Value.ownBlock] using ej
      exact hb
theorem Ps.below {B : Nat} {w w' : World} {v : Value} {l : List Pcl} (h : Ps B w v l) (m : Below w.heap.size w w') : Ps B w' v l := h.later (Mod.of_below (S := fun _ => False) m) (fun _ _ => id)
/-- A parcel lies so in three cells. -/
def PAt (w : World) (g o : Nat) (p : Pcl) : Prop := w.cell? ⟨g, o, none⟩ = some (.int .i64 p.1) ∧ w.cell? ⟨g, o + 1, none⟩ = some (.int .i64 p.2.1) ∧ w.cell? ⟨g, o + 2, none⟩ = some (.string (str p.2.2))
theorem neq_same (x y : Int) (l : List UInt8) (w : World) : (binOp .neq 35 (.agg #[.int .i64 x, .int .i64 y, .string (str l)]) (.agg #[.int .i64 x, .int .i64 y, .string (str l)])).run Try.prog w = .ok (.bool false) w := by
  have hu : Try.prog.underlying 35 = some (.struct (Try.prog.fieldsOf 35)) := by kernel_rfl
  have hp : Try.prog.stoodInHeld 35 = false := by kernel_rfl
  rw [run_neq_struct, run_equalIn_agg _ _ _ _ _ hu hp]
  simp [Program.fieldsOf, Try.underlying35, Try.underlying3, Try.underlying9, go_sem, part]
set_option maxRecDepth 100000 in
set_option maxHeartbeats 1000000 in
theorem Same_any {B C : Nat} {w : World} {v u : Value} {l : List Pcl} (h : Ps B w v l) (k : Ps C w u l) (hl : l.length ≤ 1000000) :
    Calls Try.prog 24 #[v, u] w fun e w' => e = .returned (.bool true) ∧ Below w.heap.size w w' := by
  obtain ⟨a, cap, hv⟩ := h.slice
  obtain ⟨a', cap', hu⟩ := k.slice
  subst hv hu
  have Hh := Lib.hid h
  have Hk := Lib.hid k
  obtain ⟨n, Hn⟩ : ∃ n, Hid (l.length = n) := ⟨_, Lib.hid rfl⟩
  rw [Hn.out] at Hh Hk hl ⊢
  clear h k
  go_enter Try.func24, Try.ntmps24
  go_wp2
  go_loopw [5] (fun i wr => ∃ j : Nat, i = .int .i64 (j : Int) ∧ j ≤ n ∧ Hid (∃ q, wr = w.drewN q)) (fun i _ => n - (intOf i).toNat)
  case atStart => exact ⟨0, rfl, Nat.zero_le _, Lib.hid ⟨0, rfl⟩⟩
  case round =>
    obtain ⟨j, rfl, hj, HQ⟩ := hrel
    obtain ⟨q, rfl⟩ := HQ.out
    by_cases hlt : j < n
    · obtain ⟨g, c1, e1, _, a0, a1, a2⟩ := Hh.out.cells (i := j) (by rw [Hn.out]; exact hlt)
      obtain ⟨g', c2, e2, _, b0, b1, b2⟩ := Hk.out.cells (i := j) (by rw [Hn.out]; exact hlt)
      injection e1 with e1 _ e1c
      injection e2 with e2 _ e2c
      subst e1 e2 e1c e2c
      obtain ⟨p, Hp⟩ : ∃ p, Hid (l[j]'(by rw [Hn.out]; exact hlt) = p) := ⟨_, Lib.hid rfl⟩
      rw [Hp.out] at a0 a1 a2 b0 b1 b2
      have hne := neq_same p.1 p.2.1 p.2.2
      have hjn : (j : Int) < (n : Int) := by omega
      go_wp2
      go_region
      clear hne
      go_wp2
      go_roundw
      case rel => exact ⟨j + 1, by go_num, by omega, Lib.hid ⟨q + 1, rfl⟩⟩
      case measure => simp [intOf]; omega
    · obtain rfl : j = n := by omega
      have Hd := Lib.hid (below_drewN w q)
      go_wp2
      go_ret
      exact ⟨rfl, Hd.out⟩
end Go.Proofs.Ytakhhpakajafkaa
