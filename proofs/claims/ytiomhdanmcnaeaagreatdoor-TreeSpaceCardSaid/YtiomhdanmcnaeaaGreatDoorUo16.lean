/- A new tree; of no tree nothing comes. -/
import Derived.Test.YtiomhdanmcnaeaaGreatDoorUh16
namespace Go.Proofs.YtiomhdanmcnaeaaGreatDoor
open Go.RowKit

def clampR (room : Int) : Int := min (max room 0) 1099511627776
def newTr (f : Int) : Tr := ⟨f, 0, fun _ => none, fun _ => none⟩
theorem newTr_ok (f : Int) (hf : 0 ≤ f ∧ f ≤ 1099511627776) : TokC (newTr f) 0 :=
  ⟨(fun _ _ h => by cases h), (fun _ _ h => by cases h), ⟨Int.le_refl _, Int.le_refl _⟩, by show _ ≤ f ∧ f ≤ _; omega, by omega, (fun _ _ h => by cases h)⟩
theorem box_tree {w : World} {b : Nat} {f : Int} (h : BoxC w b #[.int .i64 f, .int .i64 0, .map none, .map none] 41) (hb : b ≠ 0) : IsT w b none none 0 (newTr f) :=
  ⟨h.cell 0 rfl, h.cell 1 rfl, h.cell 2 rfl, h.cell 3 rfl, fun o _ => h.free o, fun _ => rfl, ⟨fun _ => none, fun _ => rfl, fun _ => trivial⟩, (fun e => by cases e), (fun e => by cases e), (fun _ e => by cases e), fun h => by
    rcases h with e | e | e
    · exact hb e.symm
    · cases e
    · cases e⟩
theorem mx_pos {w : World} (h : Mx w) : w.heap.size ≠ 0 := by
  obtain ⟨x, hx⟩ := h
  have := lt_of_cell hx
  have : 0 < w.heap.size := this
  omega
set_option maxRecDepth 100000 in
theorem TNew_any (room : Int) (w : World) (hm : Mx w) :
    Calls Tryz.prog 7 #[.int .i64 room] w fun e w' => ∃ b, e = .returned (.pointer (some ⟨b, 0, none⟩)) ∧ b = w.heap.size ∧ IsT w' b none none 0 (newTr (clampR room)) ∧ Below w.heap.size w w' := by
  obtain ⟨F, HF⟩ : ∃ r, Hid (clampR room = r) := ⟨_, Lib.hid rfl⟩
  have hF : min (max room 0) 1099511627776 = F := HF.out
  rw [HF.out]
  go_enter Tryz.func7, Tryz.ntmps7
  go_wp2
  go_ret
  exact ⟨_, rfl, rfl, box_tree (BoxC.new w _ _) (mx_pos hm), (Below.refl _ _).alloc (Nat.le_refl _) _⟩
section
variable {w : World} {b n : Nat} {mt ml : Option Nat} {T : Tr}
set_option maxRecDepth 100000 in
theorem Free_any (h : IsT w b mt ml n T) : Calls Tryz.prog 11 #[.pointer (some ⟨b, 0, none⟩)] w fun e w' => e = .returned (.int .i64 T.free) ∧ w = w' := by
  have c0 := h.c0
  go_enter Tryz.func11, Tryz.ntmps11
  go_wp2
  go_ret
  exact ⟨rfl, rfl⟩
end
set_option maxRecDepth 100000 in
theorem Free_nil (w : World) : Calls Tryz.prog 11 #[.pointer none] w fun e w' => e = .returned (.int .i64 0) ∧ w = w' := by
  go_enter Tryz.func11, Tryz.ntmps11
  go_wp2
  go_ret
  exact ⟨rfl, rfl⟩
set_option maxRecDepth 100000 in
theorem All_nil (w : World) : Calls Tryz.prog 10 #[.pointer none] w fun e w' => e = .returned (.slice none 0 0) ∧ w = w' := by
  go_enter Tryz.func10, Tryz.ntmps10
  go_wp2
  go_ret
  exact ⟨rfl, rfl⟩
set_option maxRecDepth 100000 in
theorem Copy_nil (w : World) : Calls Tryz.prog 12 #[.pointer none] w fun e w' => e = .returned (.pointer none) ∧ w = w' := by
  go_enter Tryz.func12, Tryz.ntmps12
  go_wp2
  go_ret
  exact ⟨rfl, rfl⟩
set_option maxRecDepth 100000 in
theorem Do_nil (cl : Cal) (w : World) : Calls Tryz.prog 8 #[.pointer none, calV cl] w fun e w' => e = .returned (repV (repE 1)) ∧ Below w.heap.size w w' := by
  go_enter Tryz.func8, Tryz.ntmps8
  go_wp2
  exact bodyPost_ret (v := repV (repE 1)) (by simp [results, Tryz.results8, go_sem]) rfl ⟨rfl, balloc ((Below.refl _ _).alloc (Nat.le_refl _) _) _⟩
/-- What a tree's blocks are newer than stays, and so do they. -/
structure Fresh (w0 w : World) (b : Nat) (mt ml : Option Nat) : Prop where
  below : Below w0.heap.size w0 w
  own : ∀ g, OwnT b mt ml g → w0.heap.size ≤ g
theorem Fresh.next {w0 w w' : World} {b : Nat} {mt ml mt' ml' : Option Nat} (h : Fresh w0 w b mt ml) (t : Turn w w' b mt ml mt' ml') : Fresh w0 w' b mt' ml' := by
  have hs := h.below.size
  refine ⟨t.mod.below h.below hs h.own, fun g hg => ?_⟩
  rcases hg with e | e | e
  · exact h.own g (.inl e)
  · rcases t.nt with q | ⟨r, q, hr⟩
    · exact h.own g (.inr (.inl (by rw [← q]; exact e)))
    · rw [q] at e; injection e with e; omega
  · rcases t.nl with q | ⟨r, q, hr⟩
    · exact h.own g (.inr (.inr (by rw [← q]; exact e)))
    · rw [q] at e; injection e with e; omega
theorem Fresh.more {w0 w w' : World} {b : Nat} {mt ml : Option Nat} (h : Fresh w0 w b mt ml) (t : Below w.heap.size w w') : Fresh w0 w' b mt ml := h.next (Turn.below b mt ml t)
end Go.Proofs.YtiomhdanmcnaeaaGreatDoor
