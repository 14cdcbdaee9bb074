
/- What the document's own reader gives, at this translation: the same as package pack's. -/
import Derived.Test.YtoakjcmhmlngfaaRef01
import Derived.Deep.QuietTactic
import Derived.BigQuiet
namespace Go.Proofs.Ytoakjcmhmlngfaa
open Go.RowKit

/-- The document's reader lies in block c: its text, its place, and whether it is bad. -/
structure XR (w : World) (c : Nat) (S : List UInt8) (at_ : Nat) (bad : Bool) : Prop where
  text : w.cell? ⟨c, 0, none⟩ = some (.string (str S))
  place : w.cell? ⟨c, 1, none⟩ = some (.int .i64 at_)
  bad : w.cell? ⟨c, 2, none⟩ = some (.bool bad)
  free1 : w.frozen? ⟨c, 1, none⟩ = false
  free2 : w.frozen? ⟨c, 2, none⟩ = false
theorem XR.lt {w : World} {b : Nat} {S : List UInt8} {n : Nat} {br : Bool} (h : XR w b S n br) : b < w.heap.size := lt_of_cell h.text
theorem XR.later {T : Nat → Prop} {w w' : World} {b : Nat} {S : List UInt8} {n : Nat} {br : Bool} (h : XR w b S n br) (m : Mod T w w') (hs : ¬ T b) : XR w' b S n br :=
  ⟨(m.cell (p := ⟨b, 0, none⟩) h.lt hs).trans h.text, (m.cell (p := ⟨b, 1, none⟩) h.lt hs).trans h.place, (m.cell (p := ⟨b, 2, none⟩) h.lt hs).trans h.bad, (m.frozen (p := ⟨b, 1, none⟩) h.lt hs).trans h.free1, (m.frozen (p := ⟨b, 2, none⟩) h.lt hs).trans h.free2⟩
theorem XR.drewN {w : World} {b : Nat} {S : List UInt8} {n : Nat} {br : Bool} (h : XR w b S n br) (k : Nat) : XR (w.drewN k) b S n br :=
  ⟨h.text, h.place, h.bad, h.free1, h.free2⟩
theorem XR.set1 {w : World} {b : Nat} {S : List UInt8} {n : Nat} {br : Bool} (h : XR w b S n br) (n' : Nat) : XR (w.setCell ⟨b, 1, none⟩ (.int .i64 n')) b S n' br :=
  ⟨set_other (by simp) h.text, set_same h.place, set_other (by simp) h.bad, set_frozen h.free1, set_frozen h.free2⟩
theorem XR.set2 {w : World} {b : Nat} {S : List UInt8} {n : Nat} {br : Bool} (h : XR w b S n br) (br' : Bool) : XR (w.setCell ⟨b, 2, none⟩ (.bool br')) b S n br' :=
  ⟨set_other (by simp) h.text, set_other (by simp) h.place, set_same h.bad, set_frozen h.free1, set_frozen h.free2⟩

/-- Only the tape has moved on. -/
def Dr (w w' : World) : Prop := ∃ q, w' = w.drewN q
theorem Dr.refl (w : World) : Dr w w := ⟨0, rfl⟩
theorem Dr.of (w : World) (n : Nat) : Dr w (w.drewN n) := ⟨n, rfl⟩
theorem Dr.next {a b : World} (h : Dr a b) (n : Nat) : Dr a (b.drewN n) := by
  obtain ⟨q, rfl⟩ := h
  exact ⟨q + n, by simp [World.drewN_drewN]⟩
theorem Dr.mod {a b : World} (h : Dr a b) (T : Nat → Prop) : Mod T a b := by
  obtain ⟨q, rfl⟩ := h
  exact (Mod.refl _ _).drewN _
theorem XR.dr {w w' : World} {b : Nat} {S : List UInt8} {n : Nat} {br : Bool} (h : XR w b S n br) (d : Dr w w') : XR w' b S n br := by
  obtain ⟨q, rfl⟩ := d
  exact h.drewN q
/-- The document's reader, by what is left of its text. -/
def AR (w : World) (c : Nat) (l : List UInt8) (br : Bool) : Prop :=
  ∃ S n, XR w c S n br ∧ n ≤ S.length ∧ S.length ≤ 4611686018427387904 ∧ l = if br then [] else S.drop n
theorem AR.later {T : Nat → Prop} {w w' : World} {c : Nat} {l : List UInt8} {br : Bool} (h : AR w c l br) (m : Mod T w w') (hs : ¬ T c) : AR w' c l br := by
  obtain ⟨S, n, h, r⟩ := h
  exact ⟨S, n, h.later m hs, r⟩
def hasN (l : List UInt8) (br : Bool) (n : Nat) : Bool := !br && decide (n ≤ l.length)
theorem AR.nil {w : World} {c : Nat} {l : List UInt8} (h : AR w c l true) : l = [] := by
  obtain ⟨S, n, _, _, _, rfl⟩ := h
  rfl
theorem AR.setBad {w : World} {c : Nat} {l : List UInt8} {br : Bool} (h : AR w c l br) : AR (w.setCell ⟨c, 2, none⟩ (.bool true)) c [] true := by
  obtain ⟨S, n, hx, hn, hS, rfl⟩ := h
  exact ⟨S, n, hx.set2 true, hn, hS, rfl⟩
end Go.Proofs.Ytoakjcmhmlngfaa
