/- What the disk's calls give that turn it: a key let in, a write, a swap's last word. -/
import Derived.Test.YtcahccjlompilaaDiskTo
namespace Go.Proofs.Ytcahccjlompilaa
open Go.RowKit Go.MapKept

section
variable {w : World} {b n : Nat} {ρ : Nat → Role} {s : DS} {lb kb cb : Nat} {pv : Value} {cf : Int → Option Value}
/-- What Register tells, and what it leaves. -/
def regE (s : DS) (k : Int) : Int := if k < 1 then 1 else if s.keys k ≠ 0 then 13 else 0
def regS (s : DS) (k : Int) : DS := if k < 1 then s else if s.keys k ≠ 0 then s else s.key k 1
set_option maxRecDepth 100000 in
theorem Register_any (h : Dk w b ρ n s lb kb cb pv cf) {k : Int} (hk : (Lit.int .i64 k).wf = true) (hn : n + 1 ≤ 1000000) :
    Calls Try.prog 15 #[.pointer (some ⟨b, 0, none⟩), .int .i64 k] w (Did w b ρ (n + 1) (regS s k) (.int .i64 (regE s k))) := by
  have c1 := h.c1
  have hsome := h.fine.some
  have hsome' : ((s.lies.length : Int) == 0) = false := beq_no (by omega)
  have hl := h.look hk
  by_cases h1 : k < 1
  · rw [regE, regS, if_pos h1, if_pos h1]
    go_enter Try.func15, Try.ntmps15
    go_wp2_with fail
    refine (Sectors_any h).mono ?_
    rintro e w1 ⟨rfl, rfl⟩
    go_wp2
    go_ret
    exact ⟨rfl, ρ, ⟨_, _, _, _, _, h.mono (Nat.le_succ n) hn⟩, Step.refl _ _⟩
  · rw [regE, regS, if_neg h1, if_neg h1]
    by_cases h2 : s.keys k = 0
    · rw [if_neg (by simpa using h2), if_neg (by simpa using h2)]
      have h2' : (s.keys k != 0) = false := bne_no h2
      obtain ⟨w', hrun, hm, hmod, _⟩ := h.keys.store Try.underlying64 (show n < maxLen by unfold maxLen; omega) hk (.int .i64 1)
      have Hm := Lib.hid hm
      have Hmod := Lib.hid hmod
      have H2 := Lib.hid h2
      clear hm hmod h2
      go_enter Try.func15, Try.ntmps15
      go_wp2_with fail
      refine (Sectors_any h).mono ?_
      rintro e w1 ⟨rfl, rfl⟩
      go_wp2
      go_ret
      exact ⟨rfl, ρ, ⟨_, _, _, _, _, h.keyTo (.inl rfl) hn Hmod.out Hm.out⟩, step_of (by rw [h.rk]; intro e; cases e) Hmod.out⟩
    · rw [if_pos h2, if_pos h2]
      have h2' : (s.keys k != 0) = true := bne_yes h2
      go_enter Try.func15, Try.ntmps15
      go_wp2_with fail
      refine (Sectors_any h).mono ?_
      rintro e w1 ⟨rfl, rfl⟩
      go_wp2
      go_ret
      exact ⟨rfl, ρ, ⟨_, _, _, _, _, h.mono (Nat.le_succ n) hn⟩, Step.refl _ _⟩
end
end Go.Proofs.Ytcahccjlompilaa
