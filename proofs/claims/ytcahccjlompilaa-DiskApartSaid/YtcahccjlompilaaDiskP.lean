/- A loss of power, as a statement sees it. -/
import Derived.Test.YtcahccjlompilaaDiskR
import Derived.Test.YtcahccjlompilaaPower
namespace Go.Proofs.Ytcahccjlompilaa
open Go.RowKit Go.MapKept

theorem Power_own {W w : World} {b n : Nat} {s : DS} {T : Nat → Prop} (h : Own W w b n s T) (hn : n + 1 ≤ 1000000) {a : Option Addr} {len cap g : Nat} {zs : List Int} (hz : PickArg w a len cap g zs) (hg : 0 < len → g < W.heap.size ∨ T g)
    {ks : List Int} (hks : ks.Pairwise (· < ·)) (hkm : ∀ k, k ∈ ks ↔ s.caches k ≠ []) :
    Calls Try.prog 32 #[.pointer (some ⟨b, 0, none⟩), .slice a len cap] w fun e w' => e = .returned (.tuple #[]) ∧ Own W w' b (n + 1) (s.power zs ks) T ∧ Left W T w w' :=
  h.lift fun _ _ _ _ _ _ h hT => Power_any h hn hz (fun h0 => hT g (hg h0)) hks hkm
end Go.Proofs.Ytcahccjlompilaa
