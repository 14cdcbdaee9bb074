/- A place in a list, by its number. -/
import Derived.Test.YtnbhjehaecifcaaAsk2
namespace Go.Proofs.Ytnbhjehaecifcaa
open Go.RowKit

/-- All but one block is as it was. -/
abbrev Sav (g : Nat) (w : World) : World → Prop := fun u => Mod (· = g) w u
instance (g : Nat) (w : World) : Nonempty (In (Sav g w)) := ⟨⟨w, Mod.refl _ _⟩⟩
theorem idxI {A : Option Addr} {n c g off : Nat} (eA : A = some ⟨g, off, none⟩) {k : Nat} (hk : k < n) (w : World) :
    (Instr.indexAt 23 (.slice A n c) (.int .i64 (k : Int))).run Try.prog w = .ok (.pointer (some ⟨g, off + k, none⟩)) w := by
  subst eA
  go_simp
theorem idxM {A : Option Addr} {n c g off : Nat} (eA : A = some ⟨g, off, none⟩) {k : Nat} (hk : k < n) (w : World) :
    (Instr.indexAt 22 (.slice A n c) (.int .i64 (k : Int))).run Try.prog w = .ok (.pointer (some ⟨g, off + k * 3, none⟩)) w := by
  subst eA
  go_simp
end Go.Proofs.Ytnbhjehaecifcaa
