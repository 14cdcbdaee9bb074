/- A pulse of a call's own, and the chapter's examples. -/
import Derived.Test.YtjmhepipkmbbmaaThose
namespace Go.Proofs.Ytjmhepipkmbbmaa
open Go.RowKit

theorem beq_yes {a b : Int} (h : a = b) : (a == b) = true := by simpa using h
theorem beq_no {a b : Int} (h : a ≠ b) : (a == b) = false := by simpa using h
/-- A pulse that a call made: all that was there ahead of it is as it was. -/
structure At (W w : World) (b : Nat) (s : PS) : Prop where
  p : IsP w b s
  below : Below W.heap.size W w
  le : W.heap.size ≤ b
theorem At.to {W w w' : World} {b : Nat} {s : PS} (h : At W w b s) (m : Below w.heap.size w w') : At W w' b s := ⟨h.p.below m, bnext h.below m, h.le⟩
theorem At.mod {W w w' : World} {b : Nat} {s s' : PS} (h : At W w b s) (m : Mod (· = b) w w') (p : IsP w' b s') : At W w' b s' := ⟨p, bmod h.below m h.le, h.le⟩
theorem New_at {W w : World} (h : Below W.heap.size W w) (l : Int) :
    Calls Try.prog 9 #[.int .i64 l] w fun e w' => ∃ b, e = .returned (.pointer (some ⟨b, 0, none⟩)) ∧ At W w' b (PS.new l) :=
  (New_any w l).mono fun _ _ ⟨b, e, p, m, hb⟩ => ⟨b, e, p, bnext h m, Nat.le_trans h.size hb⟩
section
variable {W w : World} {b : Nat} {s : PS}
theorem Watch_at (h : At W w b s) (z : Int) : Calls Try.prog 13 #[.pointer (some ⟨b, 0, none⟩), .int .i64 z] w fun e w' => e = .returned (.bool (setB s z false)) ∧ At W w' b (setP s z false true) :=
  (Watch_any h.p z).mono fun _ _ ⟨e, p, m⟩ => ⟨e, h.mod m p⟩
theorem Heard_at (h : At W w b s) (z : Int) : Calls Try.prog 11 #[.pointer (some ⟨b, 0, none⟩), .int .i64 z] w fun e w' => e = .returned (.bool (setB s z true)) ∧ At W w' b (setP s z true true) :=
  (Heard_any h.p z).mono fun _ _ ⟨e, p, m⟩ => ⟨e, h.mod m p⟩
theorem Forget_at (h : At W w b s) (z : Int) : Calls Try.prog 15 #[.pointer (some ⟨b, 0, none⟩), .int .i64 z] w fun e w' => e = .returned (.bool (setB s z true)) ∧ At W w' b (setP s z true false) :=
  (Forget_any h.p z).mono fun _ _ ⟨e, p, m⟩ => ⟨e, h.mod m p⟩
theorem Tick_at (h : At W w b s) : Calls Try.prog 16 #[.pointer (some ⟨b, 0, none⟩)] w fun e w' => e = .returned (.tuple #[]) ∧ At W w' b (tickP s) :=
  (Tick_any h.p).mono fun _ _ ⟨e, p, m⟩ => ⟨e, h.mod m p⟩
theorem Quiet_at (h : At W w b s) (z : Int) : Calls Try.prog 21 #[.pointer (some ⟨b, 0, none⟩), .int .i64 z] w fun e w' => e = .returned (.int .i64 (quietP s z)) ∧ At W w' b s :=
  (Quiet_any h.p z).mono fun _ _ ⟨e, m⟩ => ⟨e, h.to m⟩
theorem Late_at (h : At W w b s) : Calls Try.prog 18 #[.pointer (some ⟨b, 0, none⟩)] w fun e w' => ∃ a c, e = .returned (.slice a (lateL s).length c) ∧ IsInts .i64 w' a (lateL s).length (ints (lateL s)) ∧ (∀ p, a = some p → w.heap.size ≤ p.block) ∧ At W w' b s :=
  (Late_any h.p).mono fun _ _ ⟨a, n, c, e, i, hp, m⟩ => by
    have hl : (lateL s).length = n := by have := i.length; simpa [ints] using this
    subst hl
    exact ⟨a, c, e, i, hp, h.to m⟩
theorem Watched_at (h : At W w b s) : Calls Try.prog 20 #[.pointer (some ⟨b, 0, none⟩)] w fun e w' => ∃ a c, e = .returned (.slice a (allL s).length c) ∧ IsInts .i64 w' a (allL s).length (ints (allL s)) ∧ (∀ p, a = some p → w.heap.size ≤ p.block) ∧ At W w' b s :=
  (Watched_any h.p).mono fun _ _ ⟨a, n, c, e, i, hp, m⟩ => by
    have hl : (allL s).length = n := by have := i.length; simpa [ints] using this
    subst hl
    exact ⟨a, c, e, i, hp, h.to m⟩
end
theorem lateL_le (s : PS) : (lateL s).length ≤ 8 := pick_len _ _
theorem allL_le (s : PS) : (allL s).length ≤ 8 := pick_len _ _

def aw0 : PS := PS.new 2
def aw1 : PS := setP aw0 1 false true
def aw2 : PS := tickP aw1
def aw3 : PS := tickP aw2
def aw4 : PS := setP aw3 1 true true
set_option maxHeartbeats 1000000 in
theorem awake_any (w : World) : Calls Try.prog 8 #[] w fun e w' => e = .returned (.bool true) ∧ Below w.heap.size w w' := by
  have H1 : Hid (setB aw0 1 false = true) := Lib.hid (by decide)
  have H2 : Hid (quietP aw2 1 = 1) := Lib.hid (by decide)
  have H3 : Hid (lateL aw2 = []) := Lib.hid (by decide)
  have H4 : Hid (lateL aw3 = [1]) := Lib.hid (by decide)
  have H5 : Hid (setB aw3 1 true = true) := Lib.hid (by decide)
  have H6 : Hid (lateL aw4 = []) := Lib.hid (by decide)
  go_enter Try.func8, Try.ntmps8
  go_wp2_with fail
  refine (New_at (Below.refl _ _) 2).mono ?_
  rintro e w1 ⟨b, rfl, h1⟩
  have A1 : Hid (At w w1 b aw0) := Lib.hid h1
  clear h1
  go_wp2_with fail
  refine (Watch_at A1.out 1).mono ?_
  rw [H1.out]
  rintro e w2 ⟨rfl, h2⟩
  have A2 : Hid (At w w2 b aw1) := Lib.hid h2
  clear h2
  go_wp2_with fail
  refine (Tick_at A2.out).mono ?_
  rintro e w3 ⟨rfl, h3⟩
  have A3 : Hid (At w w3 b aw2) := Lib.hid h3
  clear h3
  go_wp2_with fail
  refine (Quiet_at A3.out 1).mono ?_
  rw [H2.out]
  rintro e w4 ⟨rfl, h4⟩
  have A4 : Hid (At w w4 b aw2) := Lib.hid h4
  clear h4
  go_wp2_with fail
  refine (Late_at A4.out).mono ?_
  rw [H3.out]
  rintro e w5 ⟨a, c, rfl, _, _, h5⟩
  have A5 : Hid (At w w5 b aw2) := Lib.hid h5
  clear h5
  go_wp2_with fail
  refine (Tick_at A5.out).mono ?_
  rintro e w6 ⟨rfl, h6⟩
  have A6 : Hid (At w w6 b aw3) := Lib.hid h6
  clear h6
  go_wp2_with fail
  refine (Late_at A6.out).mono ?_
  rw [H4.out]
  rintro e w7 ⟨a, c, rfl, i7, p7, h7⟩
  have A7 : Hid (At w w7 b aw3) := Lib.hid h7
  obtain ⟨g, o, rfl, hc⟩ := i7.cells (by decide)
  have hgb : g ≠ b := by have h1 := p7 _ rfl; have h2 := A6.out.p.lt; simp at h1; omega
  have C7 : Hid (w7.cell? ⟨g, o, none⟩ = some (.int .i64 1)) := Lib.hid (hc 0 (by decide))
  clear h7 i7 hc p7
  go_wp2_with fail
  refine (Heard_any A7.out.p 1).mono ?_
  rw [H5.out]
  rintro e w8 ⟨rfl, h8, m8⟩
  have A8 : Hid (At w w8 b aw4) := Lib.hid (A7.out.mod m8 h8)
  have hc8 : w8.cell? ⟨g, o, none⟩ = some (.int .i64 1) := (m8.cell (p := ⟨g, o, none⟩) (lt_of_cell C7.out) hgb).trans C7.out
  clear h8 m8
  go_wp2_with fail
  refine (Late_at A8.out).mono ?_
  rw [H6.out]
  rintro e w9 ⟨a9, c9, rfl, _, _, h9⟩
  have A9 := Lib.hid h9.below
  clear h9 hc8
  go_wp2
  go_ret
  exact ⟨rfl, A9.out⟩
end Go.Proofs.Ytjmhepipkmbbmaa
