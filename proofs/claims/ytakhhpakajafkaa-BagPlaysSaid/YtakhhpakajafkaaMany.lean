/- How many messages wait on all links. -/
import Derived.Test.YtakhhpakajafkaaOver
namespace Go.Proofs.Ytakhhpakajafkaa
open Go.RowKit Go.Shelf

attribute [local go_sem] Oper.semAt_some

/-- How many wait on the first k links. -/
def sum (s : NS) : Nat → Nat
  | 0 => 0
  | k + 1 => sum s k + (s k).length
theorem sum_le {s : NS} (h : ∀ k, (s k).length ≤ 200) : ∀ k, sum s k ≤ 200 * k
  | 0 => Nat.le_refl _
  | k + 1 => by have := sum_le h k; have := h k; simp only [sum]; omega
section
variable {w : World} {b : Nat} {ρ : Nat → Role} {s : NS}
/-- A network stays what it is where only new blocks and bookkeeping turn. -/
theorem IsN.aside {W W' : World} {B : Nat} (h : IsN W b ρ s) (hρ : ∀ g, ρ g ≠ .no → g < B) (m : Aside B W W') : IsN W' b ρ s := h.later m fun g hg => by
  cases hr : ρ g with
  | no => rfl
  | _ => have := hρ g (by rw [hr]; intro e; cases e); omega
set_option maxRecDepth 100000 in
set_option maxHeartbeats 1000000 in
theorem many_in (h : IsN w b ρ s) :
    CallsIn Fence.wide 8 Try.prog 36 #[.pointer (some ⟨b, 0, none⟩)] w fun e w' =>
      e = .returned (.int .i64 (sum s 64 : Int)) ∧ Below w.heap.size w w' := by
  obtain ⟨K, HK⟩ : ∃ K, Hid (w.heap.size = K) := ⟨_, Lib.hid rfl⟩
  obtain ⟨W1, HW1⟩ : ∃ W1, Hid (w.alloc (.cells #[.int .i64 0] 3) = W1) := ⟨_, Lib.hid rfl⟩
  have Hb1 : Hid (Below w.heap.size w W1) := Lib.hid (by rw [← HW1.out]; exact (Below.refl _ _).alloc (Nat.le_refl _) _)
  have Hs1 : Hid (W1.heap.size = K + 1) := Lib.hid (by rw [← HW1.out, ← HK.out]; simp)
  have HbS : Hid (Boxed W1 K 3 (.int .i64 ((sum s 0 : Nat) : Int))) := Lib.hid (by rw [← HW1.out, ← HK.out]; exact Boxed.new w _ _)
  have HN1 := Lib.hid (h.below Hb1.out)
  have Hρ : Hid (∀ g, ρ g ≠ .no → g < K) := Lib.hid (fun g hg => by rw [← HK.out]; exact h.top g hg)
  have hbl := h.lt
  have Hm := Lib.hid h.most
  clear h
  refine callsIn_of_wp_marks Try.func36 rfl trivial ?_ rfl
  simp only [Try.ntmps36, List.size_toArray, List.length_cons, List.length_nil, Nat.reduceAdd, Nat.reduceSub, Array.replicate_succ, Array.replicate_zero, List.push_toArray, List.append_toArray, List.nil_append, List.cons_append]
  gi_wp2
  rw [HW1.out, HK.out]
  refine over_links rfl (by omega) rfl trivial rfl
    (fun k W => Boxed W K 3 (.int .i64 (sum s k : Int)) ∧ IsN W b ρ s ∧ Below w.heap.size w W)
    (fun _ _ _ => False) (fun k W W' h m => ⟨boxed_aside m h.1, h.2.1.aside (fun g hg => by have := Hρ.out g hg; have := Hs1.out; omega) m, below_aside h.2.2 m (by have := Hs1.out; have := HK.out; omega) (h.2.2.size)⟩)
    (fun _ _ _ _ h _ => h.elim) ⟨HbS.out, HN1.out, Hb1.out⟩
    (fun k a' _ => a' = { tmps := #[.pointer (some ⟨b, 0, none⟩), undef, .int .i64 0, .pointer (some ⟨K, 0, none⟩), undef, .pointer (some ⟨b, k, none⟩), .pointer (some ⟨b, 0, none⟩), .func (.func 41) #[.pointer (some ⟨b, 0, none⟩)] #[], .agg #[.int .i64 ((k : Int) / 8), .int .i64 ((k : Int) % 8)], .pointer (some ⟨b, k, none⟩), undef, undef, undef, undef, undef], defers := [] }) (fun _ _ _ _ h _ => h)
    ?assign ?body ?done ?stop
  case assign =>
    intro l k W K' hk hI hK
    simp only [encL]
    gi_wp2
    exact hK _ _ (KeepsFrom.refl _ _) hI rfl
  case body =>
    rintro l k a' W hk ⟨hB, hN, hb⟩ rfl
    have mixed : Try.prog.follows .mixedOrders = true := by kernel_rfl
    have cS := hB.cell
    have fS := hB.frozen
    have hsl := sum_le Hm.out k
    have hml := Hm.out k
    obtain ⟨bv, hnt⟩ := hN
    have ck := hnt.cell k hk
    obtain ⟨av, cap, hv⟩ := (hnt.row k hk).slice
    rw [hv] at ck
    have Hnt := Lib.hid hnt
    have HB := Lib.hid hB
    have Hb := Lib.hid hb
    clear hnt hB hb hv
    gi_wp2
    have ckd : W.drew.cell? ⟨b, k, none⟩ = some (.slice av (s k).length cap) := ck
    gi_region_with_o (refine ⟨trivial, ?_⟩; refine (CallsIn.inRound l (callsIn_wide.2 (waits_at ckd))).mono ?_; rintro e u1 ⟨rfl, rfl⟩)
    all_goals
      have e1 : IntKind.i64.wrap ((sum s k : Int) + ((s k).length : Int)) = ((sum s (k + 1) : Nat) : Int) := by
        rw [IntWalk.i64_in _ (by omega)]; simp [sum]
      rw [e1]
      refine ⟨((KeepsOthers.setCell _ _ _).trans (KeepsOthers.drew _)).from _, HB.out.set _, ?_, ?_⟩
      · exact IsN.later ⟨bv, Hnt.out⟩ (S := (· = K)) ((Mod.refl _ W).set1 _).drew (fun g e => by
          subst e
          cases hr : ρ g with
          | no => rfl
          | _ => exact absurd (Hρ.out g (by rw [hr]; intro e; cases e)) (Nat.lt_irrefl _))
      · exact (Hb.out.setCell (p := ⟨K, 0, none⟩) (by have := HK.out; simp; omega) _).drew
  case done =>
    rintro D W hD ⟨hB, hN, hb⟩ hK
    have cS := hB.cell
    gi_wp2
    refine ⟨by simp, .inl ⟨_, _, rfl, run_takeDeferred hK, ?_⟩⟩
    refine ⟨.int .i64 (sum s 64 : Int), ?_, rfl, hb.trans (belowK_b (w := w) (Nat.le_refl _) _ D _ _ (by have := Hs1.out; have := HK.out; omega) hK rfl rfl)⟩
    simp [results, Try.f36, go_sem]
  case stop => exact fun _ _ _ _ _ _ h => h.elim
theorem many_any (h : IsN w b ρ s) :
    Calls Try.prog 36 #[.pointer (some ⟨b, 0, none⟩)] w fun e w' =>
      e = .returned (.int .i64 (sum s 64 : Int)) ∧ Below w.heap.size w w' := callsIn_wide.1 (many_in h)
end
end Go.Proofs.Ytakhhpakajafkaa
