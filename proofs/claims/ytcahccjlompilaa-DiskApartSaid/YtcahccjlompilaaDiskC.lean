/- Fences: who is to be put out, and who is; and what faults leave. -/
import Derived.Test.YtcahccjlompilaaDiskB
namespace Go.Proofs.Ytcahccjlompilaa
open Go.RowKit Go.MapKept

theorem decs_drop (zs : List Int) : (fun i => decs zs (0 + i)) = decs zs := by funext i; rw [Nat.zero_add]
theorem Step.andMod {w w2 w' : World} {ρ ρ1 : Nat → Role} (S : Step w ρ w2 ρ1) (m : Mod (fun g => ρ1 g ≠ .no ∨ w2.heap.size ≤ g) w2 w') : Step w ρ w' ρ1 :=
  ⟨⟨m.os.trans S.mod.os, m.tape.trans S.mod.tape, m.output.trans S.mod.output, Nat.le_trans S.mod.size m.size, fun i hi hn => (m.block i (Nat.lt_of_lt_of_le hi S.mod.size) (fun h => by
    rcases h with h | h
    · exact hn (S.new i hi h)
    · have := S.mod.size; omega)).trans (S.mod.block i hi hn)⟩, S.new⟩
/-- Settling by picks that are handed in, behind what turned the disk ahead. -/
theorem settle_after {w w2 : World} {b n2 : Nat} {ρ ρ1 : Nat → Role} {s2 : DS} {lb kb cb : Nat} {pv : Value} {cf : Int → Option Value} (D2 : Dk w2 b ρ1 n2 s2 lb kb cb pv cf) (S2 : Step w ρ w2 ρ1) {k : Int} (hk : (Lit.int .i64 k).wf = true)
    {a : Option Addr} {len cap g : Nat} {zs : List Int} (hz : PickArg w a len cap g zs) (hg : 0 < len → ρ g = .no) :
    Calls Try.prog 48 #[.pointer (some ⟨b, 0, none⟩), .int .i64 k, .func (.func 67) #[] #[.pointer (some ⟨w2.heap.size, 0, none⟩)]] (w2.alloc (.cells #[.slice a len cap] 29)) (Did w b ρ n2 (s2.settle k (decs zs)) (.tuple #[])) := by
  have hz2 := hz.later S2.mod (fun h0 h => h (hg h0))
  have hb : Below w2.heap.size w2 (w2.alloc (.cells #[.slice a len cap] 29)) := (Below.refl _ _).alloc (Nat.le_refl _) _
  have D3 := D2.later (Mod.of_below (S := fun _ => False) hb) (fun _ => False.elim)
  have hq : ρ1 w2.heap.size = .no := IsD.above ⟨_, _, _, _, _, D2⟩ (Nat.le_refl _)
  have hg1 : 0 < zs.length → ρ1 g = .no := fun h0 => by
    rw [hz.length] at h0
    obtain ⟨off, ha, hc⟩ := hz.cells h0
    have h1 := lt_of_cell (hc 0 h0)
    cases hr : ρ1 g with
    | no => rfl
    | _ => exact absurd (hg h0) (S2.new g h1 (by rw [hr]; intro e; cases e))
  refine (settle_picks D3 hk hq zs hg1 0 hz2.boxed).mono ?_
  rw [decs_drop]
  rintro e w' ⟨he, hD, hM, _⟩
  exact ⟨he, ρ1, hD, S2.andMod ((Mod.of_below (S := fun g => ρ1 g ≠ .no ∨ w2.heap.size ≤ g) hb).trans (hM.mono fun g _ h => h.elim .inl fun e => .inr (by omega)))⟩
section
variable {w : World} {b n : Nat} {ρ : Nat → Role} {s : DS} {lb kb cb : Nat} {pv : Value} {cf : Int → Option Value}
theorem Takes_none (h : Dk w b ρ n s lb kb cb pv cf) (hp : s.pend = []) (a : Option Addr) (len cap : Nat) :
    Calls Try.prog 28 #[.pointer (some ⟨b, 0, none⟩), .slice a len cap] w fun e w' => e = .returned (.int .i64 0) ∧ w = w' := by
  have c3 := h.c3
  obtain ⟨pa, pc, rfl⟩ : ∃ pa pc, pv = .slice pa 0 pc := by
    rcases h.pen.is with ⟨rfl, _⟩ | ⟨g, off, cap', rfl, _⟩
    · exact ⟨_, _, rfl⟩
    · rw [hp]; exact ⟨_, _, rfl⟩
  clear hp h
  go_enter Try.func28, Try.ntmps28
  go_wp2
  go_ret
  exact ⟨rfl, rfl⟩
/-- What the first pending fence's taking effect leaves. -/
def DS.taken (s : DS) (k : Int) (rest : List Int) (zs : List Int) : DS := ((s.pendTo rest).key k 2).settle k (decs zs)
set_option maxRecDepth 100000 in
set_option maxHeartbeats 400000 in
theorem Takes_some (h : Dk w b ρ n s lb kb cb pv cf) {k : Int} {rest : List Int} (hp : s.pend = k :: rest) (hn : n + 2 ≤ 1000000) {a : Option Addr} {len cap g : Nat} {zs : List Int} (hz : PickArg w a len cap g zs) (hg : 0 < len → ρ g = .no) :
    Calls Try.prog 28 #[.pointer (some ⟨b, 0, none⟩), .slice a len cap] w (Did w b ρ (n + 2) (s.taken k rest zs) (.int .i64 k)) := by
  have c3 := h.c3
  have c1 := h.c1
  have f3 := h.f3
  have hkw : (Lit.int .i64 k).wf = true := h.fine.pends k (by rw [hp]; simp)
  obtain ⟨pg, po, pc, rfl, hpg, hle, hmx, hcells, hsp⟩ : ∃ pg po pc, pv = .slice (some ⟨pg, po, none⟩) (rest.length + 1) pc ∧ pg < w.heap.size ∧ rest.length + 1 ≤ pc ∧ pc ≤ maxLen ∧ (∀ j u, (ci s.pend)[j]? = some u → w.cell? ⟨pg, po + j, none⟩ = some u) ∧
      (∀ j, j < (pc - (rest.length + 1)) * 1 → (w.cell? ⟨pg, po + (rest.length + 1) * 1 + j, none⟩).isSome = true ∧ w.frozen? ⟨pg, po + (rest.length + 1) * 1 + j, none⟩ = false) := by
    have hl : s.pend.length = rest.length + 1 := by rw [hp]; rfl
    rcases h.pen.is with ⟨_, h0⟩ | ⟨g, off, cap', he, h1, h2, h3, h4, h5⟩
    · omega
    · rw [hl] at he h2 h5
      exact ⟨g, off, cap', he, h1, h2, h3, h4, h5⟩
  have x0 : w.cell? ⟨pg, po, none⟩ = some (.int .i64 k) := by
    have := hcells 0 (.int .i64 k) (by rw [hp]; rfl)
    simpa using this
  have hnb : pg ≠ b := fun e => by have := h.penr pg rfl; rw [e, h.rb] at this; cases this
  have hrow1 : pc ≠ 1 → Row w 1 (.slice (some ⟨pg, po + 1, none⟩) rest.length (pc - 1)) rest.length (ci rest) := fun hne => by
    refine ⟨by simp [ci], .inr ⟨pg, po + 1, pc - 1, rfl, hpg, by omega, by omega, fun j u hu => ?_, fun j hj => ?_⟩⟩
    · have := hcells (j + 1) u (by rw [hp]; simpa [ci] using hu)
      rwa [show po + 1 + j = po + (j + 1) by omega]
    · have := hsp j (by omega)
      rwa [show po + 1 + rest.length * 1 + j = po + (rest.length + 1) * 1 + j by omega]
  have hrow0 : pc = 1 → rest = [] ∧ Row w 1 (.slice (some ⟨pg, po, none⟩) 0 0) 0 (ci []) := fun he => by
    refine ⟨List.eq_nil_of_length_eq_zero (by omega), ⟨rfl, .inr ⟨pg, po, 0, rfl, hpg, Nat.le_refl _, Nat.zero_le _, fun j u hu => (by simp [ci] at hu), fun j hj => (by omega)⟩⟩⟩
  have hpl : rest.length ≤ n := by have := h.fine.pend; rw [hp] at this; simp at this; omega
  have hpw : ∀ k ∈ rest, (Lit.int .i64 k).wf = true := fun k' hk' => h.fine.pends k' (by rw [hp]; simp [hk'])
  have hl0 : (((rest.length + 1 : Nat) : Int) == 0) = false := beq_no (by omega)
  have Hz := Lib.hid hz
  have Hg := Lib.hid hg
  have Hh := Lib.hid h
  have Hnb := Lib.hid hnb
  have Hpr := Lib.hid h.penr
  have hmx' : pc ≤ 9223372036854775807 := hmx
  clear hcells hsp hnb hmx hz hg hp
  by_cases hpc : pc = 1
  · obtain ⟨rfl, hrow⟩ := hrow0 hpc
    subst hpc
    obtain ⟨ρ1, D1, S1⟩ := h.pendTo (pv' := .slice (some ⟨pg, po, none⟩) 0 0) (l := []) (Mod.refl _ w) hrow (by simp) (by omega) hpw (fun g hg => .inl hg)
    obtain ⟨w2, hrun, hm, hmod, hsz⟩ := D1.keys.store Try.underlying64 (show n + 1 < maxLen by unfold maxLen; omega) hkw (.int .i64 2)
    have D2 := Lib.hid (D1.keyTo (.inr rfl) (by omega) hmod hm)
    have S2 := Lib.hid (S1.trans (step_of (w := _) (w' := w2) (ρ := ρ1) (g0 := kb) (by rw [D1.rk]; intro e; cases e) hmod))
    have hk1 := (show (w.setCell ⟨b, 3, none⟩ (.slice (some ⟨pg, po, none⟩) 0 0)).cell? ⟨b, 1, none⟩ = some (.map (some kb)) from D1.c1)
    clear hrow0 hrow1 hrow D1 S1 hm hmod hsz h
    go_enter Try.func28, Try.ntmps28
    go_wp2_with fail
    refine (odd_any _ _ _ _).mono ?_
    rintro e w3 ⟨rfl, rfl⟩
    go_wp2_with fail
    refine (settle_after D2.out S2.out hkw Hz.out Hg.out).mono ?_
    rintro e w4 ⟨rfl, ρ4, D4, S4⟩
    have HD4 := Lib.hid D4
    have HS4 := Lib.hid S4
    clear D4 S4
    go_wp2
    go_ret
    exact ⟨rfl, ρ4, HD4.out, HS4.out⟩
  · have hrow := hrow1 hpc
    obtain ⟨ρ1, D1, S1⟩ := h.pendTo (pv' := .slice (some ⟨pg, po + 1, none⟩) rest.length (pc - 1)) (l := rest) (Mod.refl _ w) hrow (by omega) (by omega) hpw (fun g hg => .inl hg)
    obtain ⟨w2, hrun, hm, hmod, hsz⟩ := D1.keys.store Try.underlying64 (show n + 1 < maxLen by unfold maxLen; omega) hkw (.int .i64 2)
    have D2 := Lib.hid (D1.keyTo (.inr rfl) (by omega) hmod hm)
    have S2 := Lib.hid (S1.trans (step_of (w := _) (w' := w2) (ρ := ρ1) (g0 := kb) (by rw [D1.rk]; intro e; cases e) hmod))
    have hk1 := (show (w.setCell ⟨b, 3, none⟩ (.slice (some ⟨pg, po + 1, none⟩) rest.length (pc - 1))).cell? ⟨b, 1, none⟩ = some (.map (some kb)) from D1.c1)
    clear hrow0 hrow1 hrow D1 S1 hm hmod hsz h
    go_enter Try.func28, Try.ntmps28
    go_wp2_with fail
    refine (odd_any _ _ _ _).mono ?_
    rintro e w3 ⟨rfl, rfl⟩
    go_wp2_with fail
    refine (settle_after D2.out S2.out hkw Hz.out Hg.out).mono ?_
    rintro e w4 ⟨rfl, ρ4, D4, S4⟩
    have HD4 := Lib.hid D4
    have HS4 := Lib.hid S4
    clear D4 S4
    go_wp2
    go_ret
    exact ⟨rfl, ρ4, HD4.out, HS4.out⟩
theorem Drop_any (h : Dk w b ρ n s lb kb cb pv cf) {k : Int} (hk : (Lit.int .i64 k).wf = true) {a : Option Addr} {len cap g : Nat} {zs : List Int} (hz : PickArg w a len cap g zs) (hg : 0 < len → ρ g = .no) :
    Calls Try.prog 30 #[.pointer (some ⟨b, 0, none⟩), .int .i64 k, .slice a len cap] w (Did w b ρ n (s.settle k (decs zs)) (.tuple #[])) := by
  go_enter Try.func30, Try.ntmps30
  go_wp2_with fail
  refine (odd_any _ _ _ _).mono ?_
  rintro e w3 ⟨rfl, rfl⟩
  go_wp2_with fail
  refine (settle_after h (Step.refl _ _) hk hz hg).mono ?_
  rintro e w4 ⟨rfl, ρ4, D4, S4⟩
  have HD4 := Lib.hid D4
  have HS4 := Lib.hid S4
  clear D4 S4
  go_wp2
  go_end0
  exact ⟨rfl, ρ4, HD4.out, HS4.out⟩
end
end Go.Proofs.Ytcahccjlompilaa
