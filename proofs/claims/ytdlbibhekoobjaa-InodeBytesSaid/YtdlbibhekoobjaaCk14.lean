/- Check of package inode, at this translation. -/
import Derived.Test.YtdlbibhekoobjaaIn14
namespace Go.Proofs.Ytdlbibhekoobjaa
open Go.RowKit

def inoV (x : Ino) (A : Option Addr) (n c : Nat) : Value := .agg #[.int .i64 x.k, .int .i64 x.l, .int .i64 x.s, .slice A n c]
/-- An inode lies in block b. -/
structure InoAt (w : World) (b : Nat) (x : Ino) (A : Option Addr) (n c : Nat) : Prop where
  c0 : w.cell? ⟨b, 0, none⟩ = some (.int .i64 x.k)
  c1 : w.cell? ⟨b, 1, none⟩ = some (.int .i64 x.l)
  c2 : w.cell? ⟨b, 2, none⟩ = some (.int .i64 x.s)
  c3 : w.cell? ⟨b, 3, none⟩ = some (.slice A n c)
theorem InoAt.lt {w : World} {b : Nat} {x : Ino} {A : Option Addr} {n c : Nat} (h : InoAt w b x A n c) : b < w.heap.size := lt_of_cell h.c0
theorem InoAt.later {S : Nat → Prop} {w w' : World} {b : Nat} {x : Ino} {A : Option Addr} {n c : Nat} (h : InoAt w b x A n c) (m : Mod S w w') (hs : ¬ S b) : InoAt w' b x A n c :=
  ⟨(m.cell (p := ⟨b, 0, none⟩) h.lt hs).trans h.c0, (m.cell (p := ⟨b, 1, none⟩) h.lt hs).trans h.c1, (m.cell (p := ⟨b, 2, none⟩) h.lt hs).trans h.c2, (m.cell (p := ⟨b, 3, none⟩) h.lt hs).trans h.c3⟩
theorem InoAt.below {w w' : World} {b : Nat} {x : Ino} {A : Option Addr} {n c : Nat} (h : InoAt w b x A n c) (m : Below w.heap.size w w') : InoAt w' b x A n c := h.later (Mod.of_below (S := fun _ => False) m) id
theorem InoAt.new (w : World) (x : Ino) (A : Option Addr) (n c : Nat) (t : TypeId) : InoAt (w.alloc (.cells #[.int .i64 x.k, .int .i64 x.l, .int .i64 x.s, .slice A n c] t)) w.heap.size x A n c := ⟨by go_simp, by go_simp, by go_simp, by go_simp⟩
set_option maxRecDepth 100000 in
set_option maxHeartbeats 4000000 in
theorem Check_any (x : Ino) (A : Option Addr) (n c : Nat) (hn : n ≤ 1000) (hws : (Lit.int .i64 x.s).wf = true) (w : World) (h : IsG w 1 encI A n x.d) :
    Calls Try.prog 16 #[inoV x A n c] w fun e w' => e = .returned (.int .i64 (inoE x)) ∧ Below w.heap.size w w' := by
  have Hws := Lib.hid hws
  obtain ⟨p, Hp⟩ : ∃ p, Hid (w.heap.size = p) := ⟨_, Lib.hid rfl⟩
  obtain ⟨W, HW⟩ : ∃ z, Hid (w.alloc (.cells #[.int .i64 x.k, .int .i64 x.l, .int .i64 x.s, .slice A n c] 24) = z) := ⟨_, Lib.hid rfl⟩
  have BW : Hid (Below w.heap.size w W) := Lib.hid (by rw [← HW.out]; exact balloc (Below.refl _ w) _)
  have HI : Hid (InoAt W p x A n c) := Lib.hid (by rw [← HW.out, ← Hp.out]; exact InoAt.new w x A n c _)
  have Hd : Hid (IsG W 1 encI A n x.d) := Lib.hid (h.below BW.out)
  have hlen := h.length
  obtain ⟨L, HL⟩ : ∃ b, Hid (linkB x.k x.l = b) := ⟨_, Lib.hid rfl⟩
  obtain ⟨N, HN⟩ : ∃ b, Hid (needI x.s = b) := ⟨_, Lib.hid rfl⟩
  obtain ⟨Q, HA⟩ : ∃ b, Hid (anyI (badQ x.d) n = b) := ⟨_, Lib.hid rfl⟩
  have Hr : Hid (inoE x = if (L && (decide (0 ≤ x.s) && (decide (x.s ≤ 6144) && (decide ((n : Int) = N) && !Q)))) = true then 0 else 1) := Lib.hid (by
    rw [inoE, inoB, HL.out, HN.out, hlen, HA.out])
  rw [Hr.out]
  have hdl : x.d.length ≤ 1000 := by omega
  have q0 : ∀ y : In (Abv W), y.u.cell? ⟨p, 0, none⟩ = some (.int .i64 x.k) := fun y => (HI.out.below y.is).c0
  have q1 : ∀ y : In (Abv W), y.u.cell? ⟨p, 1, none⟩ = some (.int .i64 x.l) := fun y => (HI.out.below y.is).c1
  have q2 : ∀ y : In (Abv W), y.u.cell? ⟨p, 2, none⟩ = some (.int .i64 x.s) := fun y => (HI.out.below y.is).c2
  have q3 : ∀ y : In (Abv W), y.u.cell? ⟨p, 3, none⟩ = some (.slice A n c) := fun y => (HI.out.below y.is).c3
  have hlt := HI.out.lt
  obtain ⟨c0, c1, c2, c3⟩ := HI.out
  rw [inoV]
  clear h hws hlen
  cases L
  · rw [show (if (false && (decide (0 ≤ x.s) && (decide (x.s ≤ 6144) && (decide ((n : Int) = N) && !Q)))) = true then (0 : Int) else 1) = 1 from if_neg (by simp)]
    go_enter Try.func16, Try.ntmps16
    go_wp2_with fail
    rw [HW.out, Hp.out]
    clear c0 c1 c2 c3 hlt
    refine wp_region_mix (by kernel_rfl) (Cls (Abv W)) ((0, 0) :: (1, 0) :: (2, 0) :: (3, 0) :: (4, 1) :: (5, 0) :: (6, 0) :: (7, 0) :: (8, 0) :: (9, 0) :: (10, 0) :: (11, 0) :: (12, 0) :: (13, 0) :: (14, 0) :: (15, 0) :: (16, 0) :: (17, 0) :: (18, 0) :: (19, 0) :: (20, 0) :: (21, 0) :: (22, 1) :: (23, 0) :: (24, 0) :: (25, 0) :: (26, 0) :: (27, 0) :: (28, 1) :: (29, 1) :: (30, 0) :: []) (by kernel_rfl) (cls (Below.refl _ W).drew) ?_
    have D0 : Hid (Below W.heap.size W W.drew) := Lib.hid (Below.refl _ W).drew
    repeat (refine mix0 rfl (fun K hK => ?_); go_simp; refine hK _ ?_; clear hK K)
    refine mix1 rfl (fun K hK => ?_)
    go_simp
    refine (linksRight_any _ _ _).mono ?_
    rw [HL.out]
    rintro e w2 ⟨rfl, rfl⟩
    refine ⟨_, rfl, hK _ _ (cls D0.out) ?_⟩
    clear hK K
    repeat (refine mix0 rfl (fun K hK => ?_); go_simp; refine hK _ ?_; clear hK K)
    refine mix1 rfl (fun K hK => ?_)
    go_simp
    refine hK _ _ (cls D0.out) ?_
    clear hK K
    repeat (refine mix0 rfl (fun K hK => ?_); go_simp; refine hK _ ?_; clear hK K)
    refine mix1 rfl (fun K hK => ?_)
    go_simp
    refine hK _ _ (cls D0.out) ?_
    clear hK K
    refine mix1 rfl (fun K hK => ?_)
    go_simp
    refine hK _ _ (cls D0.out) ?_
    clear hK K
    repeat (refine mix0 rfl (fun K hK => ?_); go_simp; refine hK _ ?_; clear hK K)
    refine mixEnd ?_
    go_wp2
    go_ret
    exact ⟨rfl, bnext BW.out D0.out⟩
  by_cases hs0 : x.s < 0
  · rw [show (if (true && (decide (0 ≤ x.s) && (decide (x.s ≤ 6144) && (decide ((n : Int) = N) && !Q)))) = true then (0 : Int) else 1) = 1 from if_neg (by simp; omega)]
    go_enter Try.func16, Try.ntmps16
    go_wp2_with fail
    rw [HW.out, Hp.out]
    clear c0 c1 c2 c3 hlt
    refine wp_region_mix (by kernel_rfl) (Cls (Abv W)) ((0, 0) :: (1, 0) :: (2, 0) :: (3, 0) :: (4, 1) :: (5, 0) :: (6, 0) :: (7, 0) :: (8, 0) :: (9, 0) :: (10, 0) :: (11, 0) :: (12, 0) :: (13, 0) :: (14, 0) :: (15, 0) :: (16, 0) :: (17, 0) :: (18, 0) :: (19, 0) :: (20, 0) :: (21, 0) :: (22, 1) :: (23, 0) :: (24, 0) :: (25, 0) :: (26, 0) :: (27, 0) :: (28, 1) :: (29, 1) :: (30, 0) :: []) (by kernel_rfl) (cls (Below.refl _ W).drew) ?_
    have D0 : Hid (Below W.heap.size W W.drew) := Lib.hid (Below.refl _ W).drew
    repeat (refine mix0 rfl (fun K hK => ?_); go_simp; refine hK _ ?_; clear hK K)
    refine mix1 rfl (fun K hK => ?_)
    go_simp
    refine (linksRight_any _ _ _).mono ?_
    rw [HL.out]
    rintro e w2 ⟨rfl, rfl⟩
    refine ⟨_, rfl, hK _ _ (cls D0.out) ?_⟩
    clear hK K
    repeat (refine mix0 rfl (fun K hK => ?_); go_simp; refine hK _ ?_; clear hK K)
    refine mix1 rfl (fun K hK => ?_)
    go_simp
    refine hK _ _ (cls D0.out) ?_
    clear hK K
    repeat (refine mix0 rfl (fun K hK => ?_); go_simp; refine hK _ ?_; clear hK K)
    refine mix1 rfl (fun K hK => ?_)
    go_simp
    refine hK _ _ (cls D0.out) ?_
    clear hK K
    refine mix1 rfl (fun K hK => ?_)
    go_simp
    refine hK _ _ (cls D0.out) ?_
    clear hK K
    repeat (refine mix0 rfl (fun K hK => ?_); go_simp; refine hK _ ?_; clear hK K)
    refine mixEnd ?_
    go_wp2
    go_ret
    exact ⟨rfl, bnext BW.out D0.out⟩
  by_cases hs1 : 6144 < x.s
  · rw [show (if (true && (decide (0 ≤ x.s) && (decide (x.s ≤ 6144) && (decide ((n : Int) = N) && !Q)))) = true then (0 : Int) else 1) = 1 from if_neg (by simp; omega)]
    go_enter Try.func16, Try.ntmps16
    go_wp2_with fail
    rw [HW.out, Hp.out]
    clear c0 c1 c2 c3 hlt
    refine wp_region_mix (by kernel_rfl) (Cls (Abv W)) ((0, 0) :: (1, 0) :: (2, 0) :: (3, 0) :: (4, 1) :: (5, 0) :: (6, 0) :: (7, 0) :: (8, 0) :: (9, 0) :: (10, 0) :: (11, 0) :: (12, 0) :: (13, 0) :: (14, 0) :: (15, 0) :: (16, 0) :: (17, 0) :: (18, 0) :: (19, 0) :: (20, 0) :: (21, 0) :: (22, 1) :: (23, 0) :: (24, 0) :: (25, 0) :: (26, 0) :: (27, 0) :: (28, 1) :: (29, 1) :: (30, 0) :: []) (by kernel_rfl) (cls (Below.refl _ W).drew) ?_
    have D0 : Hid (Below W.heap.size W W.drew) := Lib.hid (Below.refl _ W).drew
    repeat (refine mix0 rfl (fun K hK => ?_); go_simp; refine hK _ ?_; clear hK K)
    refine mix1 rfl (fun K hK => ?_)
    go_simp
    refine (linksRight_any _ _ _).mono ?_
    rw [HL.out]
    rintro e w2 ⟨rfl, rfl⟩
    refine ⟨_, rfl, hK _ _ (cls D0.out) ?_⟩
    clear hK K
    repeat (refine mix0 rfl (fun K hK => ?_); go_simp; refine hK _ ?_; clear hK K)
    refine mix1 rfl (fun K hK => ?_)
    go_simp
    refine hK _ _ (cls D0.out) ?_
    clear hK K
    repeat (refine mix0 rfl (fun K hK => ?_); go_simp; refine hK _ ?_; clear hK K)
    refine mix1 rfl (fun K hK => ?_)
    go_simp
    refine hK _ _ (cls D0.out) ?_
    clear hK K
    refine mix1 rfl (fun K hK => ?_)
    go_simp
    refine hK _ _ (cls D0.out) ?_
    clear hK K
    repeat (refine mix0 rfl (fun K hK => ?_); go_simp; refine hK _ ?_; clear hK K)
    refine mixEnd ?_
    go_wp2
    go_ret
    exact ⟨rfl, bnext BW.out D0.out⟩
  by_cases hnN : (n : Int) = N
  · have hb : ((n : Int) != N) = false := by simp [hnN]
    have e : (if (true && (decide (0 ≤ x.s) && (decide (x.s ≤ 6144) && (decide ((n : Int) = N) && !Q)))) = true then (0 : Int) else 1) = if Q then 1 else 0 := by
      rw [decide_eq_true (show 0 ≤ x.s by omega), decide_eq_true (show x.s ≤ 6144 by omega), decide_eq_true hnN]
      cases Q <;> rfl
    rw [e]
    clear e hnN
    cases Q
    · rw [if_neg (by simp)]
      go_enter Try.func16, Try.ntmps16
      go_wp2_with fail
      rw [HW.out, Hp.out]
      clear c0 c1 c2 c3 hlt
      refine wp_region_mix (by kernel_rfl) (Cls (Abv W)) ((0, 0) :: (1, 0) :: (2, 0) :: (3, 0) :: (4, 1) :: (5, 0) :: (6, 0) :: (7, 0) :: (8, 0) :: (9, 0) :: (10, 0) :: (11, 0) :: (12, 0) :: (13, 0) :: (14, 0) :: (15, 0) :: (16, 0) :: (17, 0) :: (18, 0) :: (19, 0) :: (20, 0) :: (21, 0) :: (22, 1) :: (23, 0) :: (24, 0) :: (25, 0) :: (26, 0) :: (27, 0) :: (28, 1) :: (29, 1) :: (30, 0) :: []) (by kernel_rfl) (cls (Below.refl _ W).drew) ?_
      have D0 : Hid (Below W.heap.size W W.drew) := Lib.hid (Below.refl _ W).drew
      repeat (refine mix0 rfl (fun K hK => ?_); go_simp; refine hK _ ?_; clear hK K)
      refine mix1 rfl (fun K hK => ?_)
      go_simp
      refine (linksRight_any _ _ _).mono ?_
      rw [HL.out]
      rintro e w2 ⟨rfl, rfl⟩
      refine ⟨_, rfl, hK _ _ (cls D0.out) ?_⟩
      clear hK K
      repeat (refine mix0 rfl (fun K hK => ?_); go_simp; refine hK _ ?_; clear hK K)
      refine mix1 rfl (fun K hK => ?_)
      go_simp
      refine (Need_any _ Hws.out _).mono ?_
      rw [HN.out]
      rintro e w2 ⟨rfl, rfl⟩
      refine ⟨_, rfl, hK _ _ (cls D0.out) ?_⟩
      clear hK K
      repeat (refine mix0 rfl (fun K hK => ?_); go_simp; refine hK _ ?_; clear hK K)
      refine mix1 rfl (fun K hK => ?_)
      go_simp
      refine (wrong_any _).mono ?_
      rintro e w2 ⟨b, rfl, hs⟩
      have HS := Lib.hid hs
      have D1 : Hid (Below W.heap.size W w2) := Lib.hid (bnext D0.out (hs []).below)
      clear hs
      refine ⟨_, rfl, hK _ _ (cls D1.out) ?_⟩
      clear hK K
      refine mix1 rfl (fun K hK => ?_)
      go_simp
      refine (ContainsI_any W.drew _ _ _ _ _ (Hd.out.below (Below.refl _ W).drew) _ _ _ _ (closI W.drew _ b x.d (by omega) HS.out)).mono ?_
      rw [HA.out]
      rintro e w3 ⟨rfl, i, hi⟩
      have D2 : Hid (Below W.heap.size W w3) := Lib.hid (bnext D0.out hi.below)
      clear hi
      refine ⟨_, rfl, hK _ _ (cls D2.out) ?_⟩
      clear hK K
      repeat (refine mix0 rfl (fun K hK => ?_); go_simp; refine hK _ ?_; clear hK K)
      refine mixEnd ?_
      go_wp2
      go_ret
      exact ⟨rfl, bnext BW.out D2.out⟩
    · rw [if_pos rfl]
      go_enter Try.func16, Try.ntmps16
      go_wp2_with fail
      rw [HW.out, Hp.out]
      clear c0 c1 c2 c3 hlt
      refine wp_region_mix (by kernel_rfl) (Cls (Abv W)) ((0, 0) :: (1, 0) :: (2, 0) :: (3, 0) :: (4, 1) :: (5, 0) :: (6, 0) :: (7, 0) :: (8, 0) :: (9, 0) :: (10, 0) :: (11, 0) :: (12, 0) :: (13, 0) :: (14, 0) :: (15, 0) :: (16, 0) :: (17, 0) :: (18, 0) :: (19, 0) :: (20, 0) :: (21, 0) :: (22, 1) :: (23, 0) :: (24, 0) :: (25, 0) :: (26, 0) :: (27, 0) :: (28, 1) :: (29, 1) :: (30, 0) :: []) (by kernel_rfl) (cls (Below.refl _ W).drew) ?_
      have D0 : Hid (Below W.heap.size W W.drew) := Lib.hid (Below.refl _ W).drew
      repeat (refine mix0 rfl (fun K hK => ?_); go_simp; refine hK _ ?_; clear hK K)
      refine mix1 rfl (fun K hK => ?_)
      go_simp
      refine (linksRight_any _ _ _).mono ?_
      rw [HL.out]
      rintro e w2 ⟨rfl, rfl⟩
      refine ⟨_, rfl, hK _ _ (cls D0.out) ?_⟩
      clear hK K
      repeat (refine mix0 rfl (fun K hK => ?_); go_simp; refine hK _ ?_; clear hK K)
      refine mix1 rfl (fun K hK => ?_)
      go_simp
      refine (Need_any _ Hws.out _).mono ?_
      rw [HN.out]
      rintro e w2 ⟨rfl, rfl⟩
      refine ⟨_, rfl, hK _ _ (cls D0.out) ?_⟩
      clear hK K
      repeat (refine mix0 rfl (fun K hK => ?_); go_simp; refine hK _ ?_; clear hK K)
      refine mix1 rfl (fun K hK => ?_)
      go_simp
      refine (wrong_any _).mono ?_
      rintro e w2 ⟨b, rfl, hs⟩
      have HS := Lib.hid hs
      have D1 : Hid (Below W.heap.size W w2) := Lib.hid (bnext D0.out (hs []).below)
      clear hs
      refine ⟨_, rfl, hK _ _ (cls D1.out) ?_⟩
      clear hK K
      refine mix1 rfl (fun K hK => ?_)
      go_simp
      refine (ContainsI_any W.drew _ _ _ _ _ (Hd.out.below (Below.refl _ W).drew) _ _ _ _ (closI W.drew _ b x.d (by omega) HS.out)).mono ?_
      rw [HA.out]
      rintro e w3 ⟨rfl, i, hi⟩
      have D2 : Hid (Below W.heap.size W w3) := Lib.hid (bnext D0.out hi.below)
      clear hi
      refine ⟨_, rfl, hK _ _ (cls D2.out) ?_⟩
      clear hK K
      repeat (refine mix0 rfl (fun K hK => ?_); go_simp; refine hK _ ?_; clear hK K)
      refine mixEnd ?_
      go_wp2
      go_ret
      exact ⟨rfl, bnext BW.out D2.out⟩
  · have hb : ((n : Int) != N) = true := by simp [hnN]
    rw [show (if (true && (decide (0 ≤ x.s) && (decide (x.s ≤ 6144) && (decide ((n : Int) = N) && !Q)))) = true then (0 : Int) else 1) = 1 from if_neg (by simp [hnN])]
    clear hnN
    go_enter Try.func16, Try.ntmps16
    go_wp2_with fail
    rw [HW.out, Hp.out]
    clear c0 c1 c2 c3 hlt
    refine wp_region_mix (by kernel_rfl) (Cls (Abv W)) ((0, 0) :: (1, 0) :: (2, 0) :: (3, 0) :: (4, 1) :: (5, 0) :: (6, 0) :: (7, 0) :: (8, 0) :: (9, 0) :: (10, 0) :: (11, 0) :: (12, 0) :: (13, 0) :: (14, 0) :: (15, 0) :: (16, 0) :: (17, 0) :: (18, 0) :: (19, 0) :: (20, 0) :: (21, 0) :: (22, 1) :: (23, 0) :: (24, 0) :: (25, 0) :: (26, 0) :: (27, 0) :: (28, 1) :: (29, 1) :: (30, 0) :: []) (by kernel_rfl) (cls (Below.refl _ W).drew) ?_
    have D0 : Hid (Below W.heap.size W W.drew) := Lib.hid (Below.refl _ W).drew
    repeat (refine mix0 rfl (fun K hK => ?_); go_simp; refine hK _ ?_; clear hK K)
    refine mix1 rfl (fun K hK => ?_)
    go_simp
    refine (linksRight_any _ _ _).mono ?_
    rw [HL.out]
    rintro e w2 ⟨rfl, rfl⟩
    refine ⟨_, rfl, hK _ _ (cls D0.out) ?_⟩
    clear hK K
    repeat (refine mix0 rfl (fun K hK => ?_); go_simp; refine hK _ ?_; clear hK K)
    refine mix1 rfl (fun K hK => ?_)
    go_simp
    refine (Need_any _ Hws.out _).mono ?_
    rw [HN.out]
    rintro e w2 ⟨rfl, rfl⟩
    refine ⟨_, rfl, hK _ _ (cls D0.out) ?_⟩
    clear hK K
    repeat (refine mix0 rfl (fun K hK => ?_); go_simp; refine hK _ ?_; clear hK K)
    refine mix1 rfl (fun K hK => ?_)
    go_simp
    refine hK _ _ (cls D0.out) ?_
    clear hK K
    refine mix1 rfl (fun K hK => ?_)
    go_simp
    refine hK _ _ (cls D0.out) ?_
    clear hK K
    repeat (refine mix0 rfl (fun K hK => ?_); go_simp; refine hK _ ?_; clear hK K)
    refine mixEnd ?_
    go_wp2
    go_ret
    exact ⟨rfl, bnext BW.out D0.out⟩
end Go.Proofs.Ytdlbibhekoobjaa
