/- What a loss of power leaves of one key's writes; whose fences are pending. -/
import Derived.Test.YtcahccjlompilaaFinal04
import Derived.Test.YtcahccjlompilaaDiskP
namespace Go.Proofs.Ytcahccjlompilaa
open Go.RowKit Go.MapKept

theorem Pending_own {W w : World} {b n : Nat} {s : DS} {T : Nat → Prop} (h : Own W w b n s T) (hp : s.pend = []) :
    Calls Try.prog 37 #[.pointer (some ⟨b, 0, none⟩)] w fun e w' => ∃ a c, e = .returned (.slice a 0 c) ∧ Below w.heap.size w w' := by
  obtain ⟨ρ, ⟨lb, kb, cb, pv, cf, D⟩, _⟩ := h
  have c3 := D.c3
  have hpen := D.pen
  rw [hp] at hpen
  clear D
  rcases hpen.is with ⟨rfl, _⟩ | ⟨g, off, cap, he, _⟩
  · go_enter Try.func37, Try.ntmps37
    go_wp2_with fail
    refine (Try.slices_Clone_int_nil 0 0 w).mono ?_
    rintro e w1 ⟨rfl, rfl⟩
    go_wp2
    go_ret
    exact ⟨_, _, rfl, Below.refl _ _⟩
  · have he' : pv = .slice (some ⟨g, off, none⟩) 0 cap := he
    subst he'
    clear he hpen
    go_enter Try.func37, Try.ntmps37
    go_wp2_with fail
    refine (Try.slices_Clone_int_zero ⟨g, off, none⟩ cap w).mono ?_
    rintro e w1 ⟨v, rfl, hrow, _, hb⟩
    obtain ⟨a, c, rfl⟩ : ∃ a c, v = .slice a 0 c := by
      rcases hrow.2 with ⟨rfl, _⟩ | ⟨gb, cap', cur, rfl, _⟩
      · exact ⟨_, _, rfl⟩
      · exact ⟨_, _, rfl⟩
    have HB := Lib.hid hb
    clear hrow hb
    go_wp2
    go_ret
    exact ⟨_, _, rfl, HB.out⟩
theorem fence_caches (s : DS) (t : Int) : (s.fence t).caches = s.caches := by unfold DS.fence; split <;> rfl
theorem fence_lies (s : DS) (t : Int) : (s.fence t).lies = s.lies := by unfold DS.fence; split <;> rfl
theorem fence_keys (s : DS) (t : Int) : (s.fence t).keys = s.keys := by unfold DS.fence; split <;> rfl
/-- Where one key alone has a cache. -/
theorem pow_one (s : DS) (zs : List Int) (h : ∀ x, x ≠ 1 → s.caches x = []) : ∃ ks : List Int, ks.Pairwise (· < ·) ∧ (∀ k, k ∈ ks ↔ s.caches k ≠ []) ∧
    (s.power zs ks).lies = landed s.lies (s.caches 1) (decs zs) (s.caches 1).length ∧ (s.power zs ks).keys = s.keys ∧ (s.power zs ks).pend = [] ∧ (s.power zs ks).caches 1 = [] := by
  by_cases h1 : s.caches 1 = []
  · refine ⟨[], List.Pairwise.nil, fun k => ?_, by rw [h1]; rfl, rfl, rfl, h1⟩
    by_cases e : k = 1
    · subst e; simp [h1]
    · simp [h k e]
  · refine ⟨[1], by simp, fun k => ?_, ?_, rfl, rfl, rfl⟩
    · by_cases e : k = 1
      · subst e; simp [h1]
      · simp [h k e, e]
    · show landed s.lies (s.caches 1) (fun i => decs zs (0 + i)) (s.caches 1).length = _
      rw [decs_drop]
/-- The first twelve of the picks that came in. -/
theorem picks_cut {w : World} {a : Option Addr} {len cap : Nat} {zs : List Int} (h : IsInts .i64 w a len zs) (hc : len ≤ cap) : ∃ g, PickArg w a (min len 12) cap g (zs.take 12) ∧ (0 < min len 12 → g < w.heap.size) := by
  have hl := h.length
  by_cases h0 : 0 < len
  · obtain ⟨g, off, ha, hcs⟩ := h.cells h0
    refine ⟨g, ⟨by rw [List.length_take, hl]; omega, by omega, fun z hz => h.wf z (List.mem_of_mem_take hz), fun _ => ⟨off, ha, fun i hi => ?_⟩⟩, fun _ => lt_of_cell (hcs 0 h0)⟩
    rw [hcs i (by omega)]
    simp [List.getD_eq_getElem?_getD, show i < 12 by omega]
  · exact ⟨0, ⟨by rw [List.length_take, hl]; omega, by omega, fun z hz => h.wf z (List.mem_of_mem_take hz), fun h1 => absurd h1 (by omega)⟩, fun h1 => absurd h1 (by omega)⟩
end Go.Proofs.Ytcahccjlompilaa
