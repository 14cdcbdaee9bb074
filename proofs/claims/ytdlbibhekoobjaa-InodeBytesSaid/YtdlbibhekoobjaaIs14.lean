/- The chapter's examples of inodes; pieces compared. -/
import Derived.Test.YtdlbibhekoobjaaIr14
import Derived.Laws.StructEq
import Derived.Laws.ResultCell
import Derived.Test.YtdlbibhekoobjaaArr
import Derived.Test.YtdlbibhekoobjaaMix
import Derived.Deep.QuietTactic
import Derived.BigQuiet
namespace Go.Proofs.Ytdlbibhekoobjaa
open Go.RowKit

theorem eq_pc (a b c : Int) (w : World) : (binOp .eql 41 (.agg #[.int .i64 a, .int .i64 b, .int .i64 c]) (.agg #[.int .i64 a, .int .i64 b, .int .i64 c])).run Try.prog w = .ok (.bool true) w := by
  have hu : Try.prog.underlying 41 = some (.struct (Try.prog.fieldsOf 41)) := by kernel_rfl
  have hp : Try.prog.stoodInHeld 41 = false := by kernel_rfl
  rw [run_eql_struct, run_equalIn_agg _ _ _ _ _ hu hp]
  simp [Program.fieldsOf, Try.underlying41, Try.underlying3, go_sem, part]
theorem neq_pc (a b c : Int) (w : World) : (binOp .neq 41 (.agg #[.int .i64 a, .int .i64 b, .int .i64 c]) (.agg #[.int .i64 a, .int .i64 b, .int .i64 c])).run Try.prog w = .ok (.bool false) w := by
  have hu : Try.prog.underlying 41 = some (.struct (Try.prog.fieldsOf 41)) := by kernel_rfl
  have hp : Try.prog.stoodInHeld 41 = false := by kernel_rfl
  rw [run_neq_struct, run_equalIn_agg _ _ _ _ _ hu hp]
  simp [Program.fieldsOf, Try.underlying41, Try.underlying3, go_sem, part]
/-- A piece of a row that may be read. -/
theorem IsG.piece {w : World} {A : Option Addr} {n : Nat} {l : List Pc} (h : IsG w 3 encP A n l) {i : Nat} {p : Pc} (hi : l[i]? = some p) :
    ∃ g off, A = some ⟨g, off, none⟩ ∧ w.cell? ⟨g, off + i * 3, none⟩ = some (.int .i64 (p.1 : Int)) ∧ w.cell? ⟨g, off + i * 3 + 1, none⟩ = some (.int .i64 (p.2.1 : Int)) ∧ w.cell? ⟨g, off + i * 3 + 2, none⟩ = some (.int .i64 (p.2.2 : Int)) := by
  have hil := (List.getElem?_eq_some_iff.1 hi).1
  obtain ⟨g, off, e, hg, hc⟩ := h.cells (by rw [← h.length]; omega)
  exact ⟨g, off, e, hc i p 0 _ hi rfl, hc i p 1 _ hi rfl, hc i p 2 _ hi rfl⟩
set_option maxRecDepth 100000 in
set_option maxHeartbeats 1000000 in
theorem awk14_any (w : World) :
    Calls Try.prog 10 #[] w fun e w' => e = .returned (.bool true) ∧ Below w.heap.size w w' := by
  have Hp : Hid (pieces 510 514 = [(0, 510, 512), (1, 0, 2)]) := Lib.hid (by decide)
  have Hn : Hid (needI 512 = 1 ∧ needI 513 = 2) := Lib.hid (by decide)
  go_enter Try.func10, Try.ntmps10
  go_wp2_with fail
  refine (Pieces_any _ _ _).mono ?_
  rw [Hp.out]
  rintro e w1 ⟨v, rfl, hr, hn, hb⟩
  have B1 := Lib.hid hb
  obtain ⟨A, c, he⟩ := hr.shape
  subst he
  have hI := (hr.is encP_ok).1
  obtain ⟨g, off, rfl, c0, c1, c2⟩ := hI.piece (i := 0) (p := (0, 510, 512)) rfl
  obtain ⟨g', off', he, d0, d1, d2⟩ := hI.piece (i := 1) (p := (1, 0, 2)) rfl
  have e1 : g = g' := congrArg Addr.block (Option.some.inj he)
  have e2 : off = off' := congrArg Addr.off (Option.some.inj he)
  subst e1 e2
  have q1 := eq_pc 0 510 512
  have q2 := eq_pc 1 0 2
  clear hr hn hb hI he
  simp at c0 c1 c2 d0 d1 d2
  go_wp2_with fail
  refine (Need_any _ (by decide) _).mono ?_
  rw [Hn.out.1]
  rintro e w2 ⟨rfl, rfl⟩
  go_wp2_with fail
  refine (Need_any _ (by decide) _).mono ?_
  rw [Hn.out.2]
  rintro e w2 ⟨rfl, rfl⟩
  go_wp2
  go_ret
  exact ⟨rfl, B1.out⟩
end Go.Proofs.Ytdlbibhekoobjaa
