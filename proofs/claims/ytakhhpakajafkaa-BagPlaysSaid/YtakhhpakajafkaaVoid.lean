/- Void; and what the calls of no network give that go over all links. -/
import Derived.Test.YtakhhpakajafkaaAnyP
namespace Go.Proofs.Ytakhhpakajafkaa
open Go.RowKit Go.Shelf

attribute [local go_sem] Oper.semAt_some

/-- Does a node send or get on the k-th link? -/
def hitB (d : Int) (k : Nat) : Bool := ((k : Int) / 8 == d) || ((k : Int) % 8 == d)
/-- What is left once the first n links are gone over. -/
def voidS (s : NS) (d : Int) (n : Nat) : NS := fun k => if k < n ∧ hitB d k = true then [] else s k
def voidN (s : NS) (d : Int) : Nat → Nat
  | 0 => 0
  | k + 1 => voidN s d k + if hitB d k = true then (s k).length else 0
theorem voidN_le {s : NS} (h : ∀ k, (s k).length ≤ 200) (d : Int) : ∀ k, voidN s d k ≤ 200 * k
  | 0 => Nat.le_refl _
  | k + 1 => by have := voidN_le h d k; have := h k; simp only [voidN]; split <;> omega
theorem voidS_zero (s : NS) (d : Int) : voidS s d 0 = s := by funext k; simp [voidS]
theorem voidS_hit {s : NS} {d : Int} {k : Nat} (h : hitB d k = true) : voidS s d (k + 1) = (voidS s d k).put k [] := by
  funext i
  by_cases e : i = k
  · subst e; rw [NS.put_same]; simp [voidS, h]
  · rw [NS.put_other _ _ e]
    have : (i < k + 1) = (i < k) := by simp; omega
    simp [voidS, this]
theorem voidS_miss {s : NS} {d : Int} {k : Nat} (h : hitB d k = false) : voidS s d (k + 1) = voidS s d k := by
  funext i
  by_cases e : i = k
  · subst e; simp [voidS, h]
  · have : (i < k + 1) = (i < k) := by simp; omega
    simp [voidS, this]
theorem voidS_at (s : NS) (d : Int) (k : Nat) : voidS s d k k = s k := by simp [voidS]
section
variable {w : World} {b : Nat} {ρ : Nat → Role} {s : NS} {bv : Nat → Value}
/-- What is carried from link to link. -/
structure Vd (w : World) (b : Nat) (ρ : Nat → Role) (s : NS) (d : Int) (K n : Nat) (W : World) : Prop where
  node : Boxed W K 3 (.int .i64 d)
  box : Boxed W (K + 1) 3 (.int .i64 (voidN s d n : Int))
  net : ∃ ρ', IsN W b ρ' (voidS s d n) ∧ Step w ρ W ρ' ∧ ∀ g, ρ' g ≠ .no → g < K
theorem Vd.aside {K B n : Nat} {d : Int} {W W' : World} (h : Vd w b ρ s d K n W) (hB : K ≤ B) (hw : w.heap.size ≤ B) (m : Aside B W W') : Vd w b ρ s d K n W' := by
  obtain ⟨h0, h1, ρ', h2, h3, h4⟩ := h
  refine ⟨boxed_aside m h0, boxed_aside m h1, ρ', h2.later m (fun g hg => ?_), h3.aside m hw, h4⟩
  cases hr : ρ' g with
  | no => rfl
  | _ => have := h4 g (by rw [hr]; intro e; cases e); omega
theorem Vd.drew {K n : Nat} {d : Int} {W : World} (h : Vd w b ρ s d K n W) (hw : w.heap.size ≤ K) : Vd w b ρ s d K n W.drew := h.aside (B := K) (Nat.le_refl _) hw (Mod.refl _ W).drew
theorem Vd.miss {K n : Nat} {d : Int} {W : World} (h : Vd w b ρ s d K n W) (hh : hitB d n = false) : Vd w b ρ s d K (n + 1) W :=
  ⟨h.node, by have := h.box; simpa [voidN, hh] using this, by rw [voidS_miss hh]; exact h.net⟩
/-- The k-th bag's messages are gone, and counted. -/
theorem Vd.hit {K k : Nat} {d : Int} {W : World} (h : Vd w b ρ s d K k W) (hk : k < 64) (hh : hitB d k = true) (hw : w.heap.size ≤ K) :
    Vd w b ρ s d K (k + 1) ((W.setCell ⟨K + 1, 0, none⟩ (.int .i64 ((voidN s d k + (s k).length : Nat) : Int))).setCell ⟨b, k, none⟩ (.slice none 0 0)) := by
  obtain ⟨h0, h1, ρ', h2, h3, h4⟩ := h
  have hb : b < K := h4 b (by obtain ⟨bv, h2⟩ := h2; rw [h2.head]; intro e; cases e)
  have m1 : Mod (· = K + 1) W (W.setCell ⟨K + 1, 0, none⟩ (.int .i64 ((voidN s d k + (s k).length : Nat) : Int))) := (Mod.refl _ W).set1 _
  have hN1 := h2.later m1 (fun g e => by
    subst e
    cases hr : ρ' (K + 1) with
    | no => rfl
    | _ => have := h4 (K + 1) (by rw [hr]; intro e; cases e); omega)
  obtain ⟨bv, hnt⟩ := hN1
  obtain ⟨ρ2, hN2, hS2⟩ := hnt.put hk (w1 := W.setCell ⟨K + 1, 0, none⟩ (.int .i64 ((voidN s d k + (s k).length : Nat) : Int))) (v' := .slice none 0 0) (l := []) (Mod.refl _ _) (row_nil _ _) (fun g hg => by cases hg) (Nat.zero_le _) (fun _ _ _ => rfl)
  have mb : Mod (· = b) (W.setCell ⟨K + 1, 0, none⟩ (.int .i64 ((voidN s d k + (s k).length : Nat) : Int))) ((W.setCell ⟨K + 1, 0, none⟩ (.int .i64 ((voidN s d k + (s k).length : Nat) : Int))).setCell ⟨b, k, none⟩ (.slice none 0 0)) := (Mod.refl _ _).set1 _
  have hsz : ((W.setCell ⟨K + 1, 0, none⟩ (.int .i64 ((voidN s d k + (s k).length : Nat) : Int))).setCell ⟨b, k, none⟩ (.slice none 0 0)).heap.size = (W.setCell ⟨K + 1, 0, none⟩ (.int .i64 ((voidN s d k + (s k).length : Nat) : Int))).heap.size := by simp [World.setCell]
  refine ⟨boxed_kept (boxed_kept h0 m1 (by omega)) mb (by omega), boxed_kept (by have := h1.set (.int .i64 ((voidN s d k + (s k).length : Nat) : Int)); simpa [voidN, hh] using this) mb (by omega), ρ2, by rw [voidS_hit hh]; exact hN2, (h3.set (by omega) _).trans hS2, fun g hg => h4 g (hS2.new g (by rw [← hsz]; exact hN2.top g hg) hg)⟩
set_option maxRecDepth 100000 in
set_option maxHeartbeats 2000000 in
theorem Void_in (h : IsN w b ρ s) (d : Int) :
    CallsIn Fence.wide 8 Try.prog 19 #[.pointer (some ⟨b, 0, none⟩), .int .i64 d] w
      (Did w b ρ (voidS s d 64) (.int .i64 (voidN s d 64 : Int))) := by
  obtain ⟨K, HK⟩ : ∃ K, Hid (w.heap.size = K) := ⟨_, Lib.hid rfl⟩
  obtain ⟨W1, HW1⟩ : ∃ W1, Hid ((w.alloc (.cells #[.int .i64 d] 3)).alloc (.cells #[.int .i64 0] 3) = W1) := ⟨_, Lib.hid rfl⟩
  have Hb1 : Hid (Below w.heap.size w W1) := Lib.hid (by rw [← HW1.out]; exact balloc ((Below.refl _ _).alloc (Nat.le_refl _) _) _)
  have Hs1 : Hid (W1.heap.size = K + 2) := Lib.hid (by rw [← HW1.out, ← HK.out]; simp)
  have HbS : Hid (Boxed W1 K 3 (.int .i64 d)) := Lib.hid (by rw [← HW1.out, ← HK.out]; exact (Boxed.new w _ _).alloc _)
  have HbR : Hid (Boxed W1 (K + 1) 3 (.int .i64 0)) := Lib.hid (by
    have := Boxed.new (w.alloc (.cells #[.int .i64 d] 3)) 3 (.int .i64 0)
    rw [World.size_alloc, HK.out, HW1.out] at this; exact this)
  have hbl := h.lt
  have Hm := Lib.hid h.most
  have HB1 : Hid (K ≤ W1.heap.size) := Lib.hid (by have := Hs1.out; omega)
  have HC1 : Hid (Vd w b ρ s d K 0 W1) := Lib.hid ⟨HbS.out, HbR.out, ρ, by rw [voidS_zero]; exact h.below Hb1.out, Step.of_below ρ Hb1.out, fun g hg => by rw [← HK.out]; exact h.top g hg⟩
  clear h
  refine callsIn_of_wp_marks Try.func19 rfl trivial ?_ rfl
  simp only [Try.ntmps19, List.size_toArray, List.length_cons, List.length_nil, Nat.reduceAdd, Nat.reduceSub, Array.replicate_succ, Array.replicate_zero, List.push_toArray, List.append_toArray, List.nil_append, List.cons_append]
  gi_wp2
  refine (wpIn_wide (n := 8)).2 (wp_scope_straight ((wpIn_wide (n := 8)).1 ?_))
  gi_wp2
  refine wpIn_label ?_
  gi_wp2
  rw [HW1.out, HK.out]
  refine over_links rfl (by omega) rfl trivial rfl
    (fun k W => Vd w b ρ s d K k W)
    (fun _ _ _ => False)
    (fun k W W' h m => h.aside HB1.out Hb1.out.size m)
    (fun _ _ _ _ h _ => h.elim) HC1.out
    (fun k a' W => ∃ X, K + 1 < X ∧ Boxed2 W X 72 (.int .i64 ((k : Int) / 8)) (.int .i64 ((k : Int) % 8)) ∧ a' = { tmps := #[.pointer (some ⟨b, 0, none⟩), .int .i64 d, undef, .pointer (some ⟨K, 0, none⟩), .int .i64 0, .pointer (some ⟨K + 1, 0, none⟩), .pointer (some ⟨X, 0, none⟩), .pointer (some ⟨b, k, none⟩), .pointer (some ⟨b, 0, none⟩), .func (.func 41) #[.pointer (some ⟨b, 0, none⟩)] #[], .agg #[.int .i64 ((k : Int) / 8), .int .i64 ((k : Int) % 8)], .pointer (some ⟨b, k, none⟩), undef, undef, undef, undef, undef, undef, undef, undef, undef, undef, undef, undef, undef, undef, undef, undef, undef], defers := [] }) (fun _ _ _ _ ⟨X, h1, h2, h3⟩ m => ⟨X, h1, h2.aside m, h3⟩)
    ?assign ?body ?done ?stop
  case assign =>
    rintro l k W K' hk hC hK
    simp only [encL]
    gi_wp2
    exact hK _ _ ((KeepsOthers.alloc _ _).from _) (hC.aside (B := K) (Nat.le_refl _) (by rw [HK.out]; exact Nat.le_refl _) (aside_alloc _ _ _)) ⟨W.heap.size, hC.box.lt, Boxed2.new W _ _ _, rfl⟩
  case body =>
    rintro l k a' W hk hC ⟨X, hX, hbX, rfl⟩
    have mixed : Try.prog.follows .mixedOrders = true := by kernel_rfl
    have HC := Lib.hid hC
    obtain ⟨ρ', hN, hS, hρ'⟩ := hC.net
    obtain ⟨bv, hnt⟩ := hN
    have ck := hnt.cell k hk
    have fk := hnt.free k hk
    obtain ⟨av, cap, hv⟩ := (hnt.row k hk).slice
    rw [hv, voidS_at] at ck
    have hml := Hm.out k
    have hvl := voidN_le Hm.out d k
    have cN := hC.node.cell
    have cS := hC.box.cell
    have fS := hC.box.frozen
    have cX0 := hbX.cell0
    have cX1 := hbX.cell1
    have Hb : Hid (b < K) := Lib.hid (hρ' b (by rw [hnt.head]; intro e; cases e))
    have ckd : W.drew.cell? ⟨b, k, none⟩ = some (.slice av (s k).length cap) := ck
    clear hC hbX hS hρ' hnt hv
    cases hh : hitB d k with
    | false =>
      have h1 : ((k : Int) / 8 != d) = true := by simp [hitB] at hh; simpa using hh.1
      have h2 : ((k : Int) % 8 != d) = true := by simp [hitB] at hh; simpa using hh.2
      have Hh := Lib.hid hh
      clear hh
      gi_wp2
      exact ⟨KeepsFrom.refl _ _, HC.out.miss Hh.out⟩
    | true =>
      have HV := Lib.hid (HC.out.hit hk hh (by rw [HK.out]; exact Nat.le_refl _))
      have hor : (k : Int) / 8 = d ∨ ((k : Int) / 8 ≠ d ∧ (k : Int) % 8 = d) := by
        simp [hitB] at hh
        by_cases e : (k : Int) / 8 = d
        · exact .inl e
        · exact .inr ⟨e, hh.resolve_left e⟩
      obtain ⟨N, HN⟩ : ∃ N, Hid (voidN s d k + (s k).length = N) := ⟨_, Lib.hid rfl⟩
      have e1 : IntKind.i64.wrap ((voidN s d k : Int) + ((s k).length : Int)) = (N : Int) := by
        rw [IntWalk.i64_in _ (by omega), ← HN.out]; omega
      have He1 := Lib.hid e1
      rw [HN.out] at HV
      clear hh e1
      have ckd2 : (W.setCell ⟨K + 1, 0, none⟩ (.int .i64 (N : Int))).drew.cell? ⟨b, k, none⟩ = some (.slice av (s k).length cap) := by
        have hne : b ≠ K + 1 := by have := Hb.out; omega
        exact set_other (fun h => hne (by injection h with h; exact h.symm)) ck
      have fkd2 : (W.setCell ⟨K + 1, 0, none⟩ (.int .i64 (N : Int))).drew.frozen? ⟨b, k, none⟩ = false := set_frozen fk
      rcases hor with hor | ⟨hor1, hor2⟩
      · have h1 : ((k : Int) / 8 != d) = false := bne_no hor
        clear hor
        gi_wp2
        gi_region_with_o (refine ⟨trivial, ?_⟩; refine (CallsIn.inRound l (callsIn_wide.2 (waits_at ckd))).mono ?_; rintro e u1 ⟨rfl, rfl⟩)
        all_goals
          rw [He1.out]
          gi_wp2
          exact ⟨(((KeepsOthers.setCell _ _ _).trans (KeepsOthers.setCell _ _ _)).trans (KeepsOthers.drew _)).from _, HV.out.drew (by rw [HK.out]; exact Nat.le_refl _)⟩
      · have h1 : ((k : Int) / 8 != d) = true := bne_yes hor1
        have h2 : ((k : Int) % 8 != d) = false := bne_no hor2
        clear hor1 hor2
        gi_wp2
        gi_region_with_o (refine ⟨trivial, ?_⟩; refine (CallsIn.inRound l (callsIn_wide.2 (waits_at ckd))).mono ?_; rintro e u1 ⟨rfl, rfl⟩)
        all_goals
          rw [He1.out]
          gi_wp2
          exact ⟨(((KeepsOthers.setCell _ _ _).trans (KeepsOthers.setCell _ _ _)).trans (KeepsOthers.drew _)).from _, HV.out.drew (by rw [HK.out]; exact Nat.le_refl _)⟩
  case done =>
    rintro D W hD hC hK
    have cS := hC.box.cell
    have HC := Lib.hid hC
    clear hC
    gi_wp2
    have hput := aside_put (B := w.heap.size) (W := W) (l := D) (by have := HK.out; have := Hs1.out; omega) hK rfl (.deferred none)
    obtain ⟨_, _, ρ', h1, h2, _⟩ := HC.out.aside (B := w.heap.size) (by rw [HK.out]; exact Nat.le_refl _) (Nat.le_refl _) hput
    refine ⟨by simp, .inl ⟨_, _, rfl, run_takeDeferred hK, ?_⟩⟩
    refine ⟨.int .i64 (voidN s d 64 : Int), ?_, rfl, ρ', h1, h2⟩
    simp [results, Try.f19, go_sem]
  case stop => exact fun _ _ _ _ _ _ h => h.elim
theorem Void_any (h : IsN w b ρ s) (d : Int) :
    Calls Try.prog 19 #[.pointer (some ⟨b, 0, none⟩), .int .i64 d] w (Did w b ρ (voidS s d 64) (.int .i64 (voidN s d 64 : Int))) := callsIn_wide.1 (Void_in h d)
end
end Go.Proofs.Ytakhhpakajafkaa
