/- A list with others in place of some, at this translation. -/
import Derived.Test.YtiomhdanmcnaeaaGreatDoorGw15
namespace Go.Proofs.YtiomhdanmcnaeaaGreatDoor
open Go.RowKit

def a3 {α : Type} (a b c : α) : Nat → α
  | 0 => a
  | 1 => b
  | _ => c
set_option maxRecDepth 100000 in
set_option maxHeartbeats 4000000 in
theorem with_some (g off n c : Nat) (l : List Ent) (i k : Nat) (B : Option Addr) (m d : Nat) (x : List Ent) (w : World) (h : IsG w 2 encN (some ⟨g, off, none⟩) n l) (hx : IsG w 2 encN B m x) (hik : i ≤ k) (hk : k ≤ n) (hnc : n ≤ c) (hn : n ≤ 5000) (hm : m ≤ 1000) :
    Calls Tryz.prog 95 #[.slice (some ⟨g, off, none⟩) n c, .int .i64 (i : Int), .int .i64 (k : Int), .slice B m d] w fun e w' => ∃ v, e = .returned v ∧ RG w' 2 encN v (l.take i ++ x ++ l.drop k) ∧ (∀ g, blk v = some g → w.heap.size ≤ g) ∧ Below w.heap.size w w' := by
  have H := Lib.hid h
  have Hx := Lib.hid hx
  have i0 : (0 : Int) ≤ (i : Int) := by omega
  have k0 : (0 : Int) ≤ (k : Int) := by omega
  have ic : (i : Int) ≤ (c : Int) := by omega
  have kn : (k : Int) ≤ (n : Int) := by omega
  obtain ⟨A3, HA3⟩ : ∃ A3, Hid ((if c = k then some ⟨g, off, none⟩ else some ⟨g, off + k * 2, none⟩ : Option Addr) = A3) := ⟨_, Lib.hid rfl⟩
  have HD : Hid (IsG w 2 encN A3 (n - k) (l.drop k)) := Lib.hid (h.drop hk A3 (fun hkn => by rw [← HA3.out, if_neg (by omega)]))
  clear h hx
  go_enter Tryz.func95, Tryz.ntmps95
  go_wp2_with fail
  refine wp_region_mix (by kernel_rfl) (Cls (Abv w)) [(0, 0), (1, 0), (2, 0), (3, 0), (4, 0), (5, 0), (6, 0), (7, 1), (8, 1), (9, 0)] (by kernel_rfl) (cls (Below.refl _ _).drew) ?_
  repeat (refine mix0 rfl (fun K hK => ?_); go_simp; refine hK _ ?_; clear hK K)
  refine mix1 rfl (fun K hK => ?_)
  go_simp
  rw [HA3.out]
  obtain ⟨W, HW⟩ : ∃ W, Hid ((w.alloc (.cells #[.slice (some ⟨g, off, none⟩) i c, .slice B m d, .slice A3 (n - k) (c - k)] 72)).drew = W) := ⟨_, Lib.hid rfl⟩
  obtain ⟨q, Hq⟩ : ∃ p, Hid (w.heap.size = p) := ⟨_, Lib.hid rfl⟩
  have BW : Hid (Below w.heap.size w W ∧ ∀ j, j < 3 → W.cell? ⟨q, j, none⟩ = some (.slice (a3 (some ⟨g, off, none⟩) B A3 j) (a3 i m (n - k) j) (a3 c d (c - k) j)) ∧ IsG W 2 encN (a3 (some ⟨g, off, none⟩) B A3 j) (a3 i m (n - k) j) (a3 (l.take i) x (l.drop k) j)) := Lib.hid (by
    have b : Below w.heap.size w W := by rw [← HW.out]; exact (balloc (Below.refl _ _) _).drew
    refine ⟨b, fun j hj => ?_⟩
    match j, hj with
    | 0, _ => exact ⟨by rw [← HW.out, ← Hq.out]; go_simp; exact ⟨rfl, rfl, rfl⟩, (H.out.take (show i ≤ n by omega)).below b⟩
    | 1, _ => exact ⟨by rw [← HW.out, ← Hq.out]; go_simp; exact ⟨rfl, rfl, rfl⟩, Hx.out.below b⟩
    | 2, _ => exact ⟨by rw [← HW.out, ← Hq.out]; go_simp; exact ⟨rfl, rfl, rfl⟩, HD.out.below b⟩)
  rw [HW.out, Hq.out]
  refine hK _ _ (cls BW.out.1) ?_
  clear hK K
  refine mix1 rfl (fun K hK => ?_)
  go_simp
  refine (Concat_any q 3 (a3 (some ⟨g, off, none⟩) B A3) (a3 i m (n - k)) (a3 c d (c - k)) (a3 (l.take i) x (l.drop k)) W (by decide) (by simp [sumTo, a3]; omega) BW.out.2).mono ?_
  rw [show catTo (a3 (l.take i) x (l.drop k)) 3 = l.take i ++ x ++ l.drop k by simp [catTo, a3]]
  rintro e w2 ⟨v, rfl, g2, n2, b2⟩
  have T2 : Hid (RG w2 2 encN v (l.take i ++ x ++ l.drop k) ∧ (∀ g, blk v = some g → w.heap.size ≤ g) ∧ Below w.heap.size w w2) := Lib.hid ⟨g2, fun g e => Nat.le_trans BW.out.1.size (n2 g e), bnext BW.out.1 b2⟩
  clear g2 n2 b2
  refine ⟨_, rfl, hK _ _ (cls T2.out.2.2) ?_⟩
  clear hK K
  repeat (refine mix0 rfl (fun K hK => ?_); go_simp; refine hK _ ?_; clear hK K)
  refine mixEnd ?_
  go_wp2
  go_ret
  exact ⟨v, rfl, T2.out⟩
set_option maxRecDepth 100000 in
set_option maxHeartbeats 4000000 in
theorem with_none (B : Option Addr) (m d : Nat) (x : List Ent) (w : World) (hx : IsG w 2 encN B m x) (hm : m ≤ 1000) :
    Calls Tryz.prog 95 #[.slice none 0 0, .int .i64 0, .int .i64 0, .slice B m d] w fun e w' => ∃ v, e = .returned v ∧ RG w' 2 encN v x ∧ (∀ g, blk v = some g → w.heap.size ≤ g) ∧ Below w.heap.size w w' := by
  have Hx := Lib.hid hx
  clear hx
  go_enter Tryz.func95, Tryz.ntmps95
  go_wp2_with fail
  refine wp_region_mix (by kernel_rfl) (Cls (Abv w)) [(0, 0), (1, 0), (2, 0), (3, 0), (4, 0), (5, 0), (6, 0), (7, 1), (8, 1), (9, 0)] (by kernel_rfl) (cls (Below.refl _ _).drew) ?_
  repeat (refine mix0 rfl (fun K hK => ?_); go_simp; refine hK _ ?_; clear hK K)
  refine mix1 rfl (fun K hK => ?_)
  go_simp
  obtain ⟨W, HW⟩ : ∃ W, Hid ((w.alloc (.cells #[.slice none 0 0, .slice B m d, .slice none 0 0] 72)).drew = W) := ⟨_, Lib.hid rfl⟩
  obtain ⟨q, Hq⟩ : ∃ p, Hid (w.heap.size = p) := ⟨_, Lib.hid rfl⟩
  have hnil : ∀ u : World, IsG u 2 encN none 0 ([] : List Ent) := fun u => ⟨rfl, Nat.zero_le _, fun h => absurd h (Nat.lt_irrefl _)⟩
  have BW : Hid (Below w.heap.size w W ∧ ∀ j, j < 3 → W.cell? ⟨q, j, none⟩ = some (.slice (a3 none B none j) (a3 0 m 0 j) (a3 0 d 0 j)) ∧ IsG W 2 encN (a3 none B none j) (a3 0 m 0 j) (a3 [] x [] j)) := Lib.hid (by
    have b : Below w.heap.size w W := by rw [← HW.out]; exact (balloc (Below.refl _ _) _).drew
    refine ⟨b, fun j hj => ?_⟩
    match j, hj with
    | 0, _ => exact ⟨by rw [← HW.out, ← Hq.out]; go_simp; exact ⟨rfl, rfl, rfl⟩, hnil _⟩
    | 1, _ => exact ⟨by rw [← HW.out, ← Hq.out]; go_simp; exact ⟨rfl, rfl, rfl⟩, Hx.out.below b⟩
    | 2, _ => exact ⟨by rw [← HW.out, ← Hq.out]; go_simp; exact ⟨rfl, rfl, rfl⟩, hnil _⟩)
  rw [HW.out, Hq.out]
  refine hK _ _ (cls BW.out.1) ?_
  clear hK K hnil
  refine mix1 rfl (fun K hK => ?_)
  go_simp
  refine (Concat_any q 3 (a3 none B none) (a3 0 m 0) (a3 0 d 0) (a3 [] x []) W (by decide) (by simp [sumTo, a3]; omega) BW.out.2).mono ?_
  rw [show catTo (a3 [] x []) 3 = x by simp [catTo, a3]]
  rintro e w2 ⟨v, rfl, g2, n2, b2⟩
  have T2 : Hid (RG w2 2 encN v x ∧ (∀ g, blk v = some g → w.heap.size ≤ g) ∧ Below w.heap.size w w2) := Lib.hid ⟨g2, fun g e => Nat.le_trans BW.out.1.size (n2 g e), bnext BW.out.1 b2⟩
  clear g2 n2 b2
  refine ⟨_, rfl, hK _ _ (cls T2.out.2.2) ?_⟩
  clear hK K
  repeat (refine mix0 rfl (fun K hK => ?_); go_simp; refine hK _ ?_; clear hK K)
  refine mixEnd ?_
  go_wp2
  go_ret
  exact ⟨v, rfl, T2.out⟩
end Go.Proofs.YtiomhdanmcnaeaaGreatDoor
