/- What is asked of a view: Inc. -/
import Derived.Test.YtfdbkmncgngkjaaFind
namespace Go.Proofs.Ytfdbkmncgngkjaa
open Go.RowKit

def incOf (V : Vw) (node : Int) : Int := match V.mem[V.mem.findIdx (pOf node)]? with | some m => m.2.1 | none => 0
set_option maxHeartbeats 1000000 in
theorem Inc_any (w : World) (x : Vx) (V : Vw) (h : IsV w x V) (node : Int) :
    Calls Try.prog 31 #[vV x, .int .i64 node] w fun e w' => e = .returned (.int .i64 (incOf V node)) ∧ Below w.heap.size w w' := by
  have hn := h.mem.small
  have Hh := Lib.hid h
  obtain ⟨F, HF⟩ : ∃ F, Hid (V.mem.findIdx (pOf node) = F) := ⟨_, Lib.hid rfl⟩
  clear h
  go_enter Try.func31, Try.ntmps31
  go_wp2
  obtain ⟨w1, Hw1⟩ : ∃ w1, Hid (w.alloc (.cells (vC x) 25) = w1) := ⟨_, Lib.hid rfl⟩
  obtain ⟨b, Hb⟩ : ∃ b, Hid (w.heap.size = b) := ⟨_, Lib.hid rfl⟩
  have HB : Hid (BoxV w1 b x) := Lib.hid (by rw [← Hw1.out, ← Hb.out]; exact BoxV.new w x)
  have Hb1 : Hid (Below w.heap.size w w1) := Lib.hid (by rw [← Hw1.out]; exact (Below.refl _ _).alloc (Nat.le_refl _) _)
  rw [Hw1.out, Hb.out]
  have hc : ∀ y : In (Abv w1), y.u.cell? ⟨b, 2, none⟩ = some (.slice x.mA x.mn x.mc) := fun y => (HB.out.below y.is).cells.2.2.1
  refine wp_region_mix (by kernel_rfl) (Cls (Abv w1)) [(0, 0), (1, 0), (2, 0), (3, 1), (4, 1), (5, 2)] (by kernel_rfl) (cls (Below.refl _ _).drew) ?_
  repeat (refine mix0 rfl (fun K hK => ?_); go_simp; refine hK _ ?_; clear hK K)
  refine mix1 rfl (fun K hK => ?_)
  go_simp
  refine (of_any node _).mono ?_
  rintro e w2 ⟨q, rfl, hb2, hcl⟩
  have Hb2 : Hid (Below w1.heap.size w1 w2) := Lib.hid ((Below.refl _ _).drew.trans hb2)
  have Hcl := Lib.hid hcl
  clear hb2 hcl
  refine ⟨_, rfl, hK _ _ (cls Hb2.out) ?_⟩
  clear hK K
  refine mix1 rfl (fun K hK => ?_)
  go_simp
  refine (find_of _ _ _ _ _ ((Hh.out.mem.below Hb1.out).below Hb2.out) _ _ Hcl.out).mono ?_
  rw [HF.out]
  rintro e w3 ⟨rfl, hb3⟩
  have Hb3 : Hid (Below w1.heap.size w1 w3) := Lib.hid (bnext Hb2.out hb3)
  clear hb3
  refine ⟨_, rfl, hK _ _ (cls Hb3.out) ?_⟩
  clear hK K
  refine mix2 rfl (fun K hK => ?_)
  go_simp
  refine hK _ _ ?_
  clear hK K
  refine mixEnd ?_
  have hc3 := hc ⟨w3, Hb3.out⟩
  clear hc
  by_cases hlt : F < x.mn
  · obtain ⟨g, off, eA, hg, hcs⟩ := ((Hh.out.mem.below Hb1.out).below Hb3.out).cells (by omega)
    rw [eA] at hc3
    obtain ⟨m, hm⟩ : ∃ m, V.mem[F]? = some m := ⟨_, List.getElem?_eq_getElem (by rw [Hh.out.mem.length]; exact hlt)⟩
    have hm1 := (hcs F m hm).2.1
    have Hi : Hid (incOf V node = m.2.1) := Lib.hid (by unfold incOf; rw [HF.out, hm])
    have hne : ((F : Int) == (x.mn : Int)) = false := beq_no (by omega)
    have heA := Lib.hid eA
    clear eA hm hcs
    go_wp2
    go_ret
    exact ⟨ret_int Hi.out.symm, Hb1.out.trans (Hb3.out.mono Hb1.out.size)⟩
  · have he : F = x.mn := by have := Hh.out.mem.length; have := List.findIdx_le_length (xs := V.mem) (p := pOf node); rw [HF.out] at this; omega
    have Hi : Hid (incOf V node = 0) := Lib.hid (by unfold incOf; rw [HF.out, List.getElem?_eq_none (by rw [Hh.out.mem.length]; omega)])
    have hne : ((F : Int) == (x.mn : Int)) = true := beq_yes (by omega)
    clear he
    go_wp2
    go_ret
    exact ⟨ret_int Hi.out.symm, Hb1.out.trans (Hb3.out.mono Hb1.out.size)⟩
end Go.Proofs.Ytfdbkmncgngkjaa
