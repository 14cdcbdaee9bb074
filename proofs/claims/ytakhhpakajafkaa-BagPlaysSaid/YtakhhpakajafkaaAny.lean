/- A message of any link taken. -/
import Derived.Test.YtakhhpakajafkaaAll
import Derived.Test.YtakhhpakajafkaaMany
import Derived.Test.YtakhhpakajafkaaDrawIn
namespace Go.Proofs.Ytakhhpakajafkaa
open Go.RowKit Go.Shelf

attribute [local go_sem] Oper.semAt_some

theorem sum_mono (s : NS) {k n : Nat} (h : k ≤ n) : sum s k ≤ sum s n := by
  induction n with
  | zero => rw [Nat.le_zero.1 h]; exact Nat.le_refl _
  | succ n ih =>
    rcases Nat.lt_or_ge n k with h1 | h1
    · rw [show k = n + 1 by omega]; exact Nat.le_refl _
    · have := ih h1; simp only [sum]; omega
theorem Step.aside {w W W' : World} {ρ ρ' : Nat → Role} {B : Nat} (h : Step w ρ W ρ') (m : Aside B W W') (hB : w.heap.size ≤ B) : Step w ρ W' ρ' :=
  ⟨⟨m.os.trans h.mod.os, m.tape.trans h.mod.tape, m.output.trans h.mod.output, Nat.le_trans h.mod.size m.size,
    fun i hi hn => (m.block i (Nat.lt_of_lt_of_le hi h.mod.size) (fun ⟨h1, _⟩ => by omega)).trans (h.mod.block i hi hn)⟩, h.new⟩
/-- A block of three cells. -/
def Boxed3 (W : World) (B : Nat) (t : TypeId) (u v x : Value) : Prop := W.heap[B]? = some (.cells #[u, v, x] t (0, 0))
theorem Boxed3.new (W : World) (t : TypeId) (u v x : Value) : Boxed3 (W.alloc (.cells #[u, v, x] t)) W.heap.size t u v x := World.alloc_heap_new W _
theorem Boxed3.lt {W : World} {B : Nat} {t : TypeId} {u v x : Value} (h : Boxed3 W B t u v x) : B < W.heap.size := (Array.getElem?_eq_some_iff.1 h).1
theorem Boxed3.cell0 {W : World} {B : Nat} {t : TypeId} {u v x : Value} (h : Boxed3 W B t u v x) : W.cell? ⟨B, 0, none⟩ = some u := by simp [World.cell?, show W.heap[B]? = _ from h]
theorem Boxed3.cell1 {W : World} {B : Nat} {t : TypeId} {u v x : Value} (h : Boxed3 W B t u v x) : W.cell? ⟨B, 1, none⟩ = some v := by simp [World.cell?, show W.heap[B]? = _ from h]
theorem Boxed3.cell2 {W : World} {B : Nat} {t : TypeId} {u v x : Value} (h : Boxed3 W B t u v x) : W.cell? ⟨B, 2, none⟩ = some x := by simp [World.cell?, show W.heap[B]? = _ from h]
theorem Boxed3.frozen {W : World} {B : Nat} {t : TypeId} {u v x : Value} (h : Boxed3 W B t u v x) (o : Nat) : W.frozen? ⟨B, o, none⟩ = false := by simp [World.frozen?, show W.heap[B]? = _ from h]
theorem Boxed3.aside {B : Nat} {W W' : World} (m : Aside B W W') {g : Nat} {t : TypeId} {u v x : Value} (h : Boxed3 W g t u v x) : Boxed3 W' g t u v x :=
  (m.block g h.lt (fun ⟨_, o, ho, hc⟩ => by rw [show W.heap[g]? = _ from h] at ho; cases ho; cases hc)).trans h
theorem Boxed3.kept {W W' : World} {g : Nat} {t : TypeId} {u v x : Value} (h : Boxed3 W g t u v x) {S : Nat → Prop} (m : Mod S W W') (hs : ¬ S g) : Boxed3 W' g t u v x := (m.block g h.lt hs).trans h
theorem Boxed3.set {W : World} {g : Nat} {t : TypeId} {u v x : Value} (h : Boxed3 W g t u v x) (u' v' x' : Value) : Boxed3 (((W.setCell ⟨g, 0, none⟩ u').setCell ⟨g, 1, none⟩ v').setCell ⟨g, 2, none⟩ x') g t u' v' x' := by
  have hs : ∀ (W : World) (o : Nat) (y : Value) (c : Array Value), W.heap[g]? = some (.cells c t (0, 0)) → (W.setCell ⟨g, o, none⟩ y).heap[g]? = some (.cells (c.setIfInBounds o y) t (0, 0)) := by
    intro W o y c hc
    obtain ⟨hlt, hk⟩ := Array.getElem?_eq_some_iff.1 hc
    show (W.heap.modify g _)[g]? = _
    rw [Array.getElem?_eq_getElem (by rw [Array.size_modify]; exact hlt), Array.getElem_modify_self, hk]
    rfl
  exact hs _ 2 x' _ (hs _ 1 v' _ (hs _ 0 u' _ h))
theorem boxed_kept {W W' : World} {g : Nat} {t : TypeId} {v : Value} (h : Boxed W g t v) {S : Nat → Prop} (m : Mod S W W') (hs : ¬ S g) : Boxed W' g t v := (m.block g h.lt hs).trans h
theorem keeps_mod {S : Nat → Prop} {B : Nat} {W u : World} (m : Mod S W u) (hS : ∀ g, S g → g < B) : KeepsFrom B W u :=
  ⟨m.size, fun k o hB hk _ => (m.block k (Array.getElem?_eq_some_iff.1 hk).1 (fun h => by have := hS k h; omega)).trans hk⟩
theorem take_nth2 {w : World} {b : Nat} {ρ : Nat → Role} {s : NS} {bv : Nat → Value} (h : Nt w b ρ s bv) {k : Nat} (hk : k < 64) {p : Nat} (hp : p < (s k).length) :
    Calls Try.prog 32 #[.pointer (some ⟨b, k, none⟩), .int .i64 (p : Int)] w (fun e w' => Did w b ρ (s.put k ((s k).eraseIdx p)) (.string (str (nth (s k) p))) e w' ∧ w'.heap.size = w.heap.size) := by
  rw [nth_get hp]; exact take_yes h hk hp
section
variable {w : World} {b : Nat} {ρ : Nat → Role} {s : NS} {bv : Nat → Value}
/-- What is carried from link to link, till the one is come to. -/
structure Way (w : World) (b : Nat) (ρ : Nat → Role) (s : NS) (bv : Nat → Value) (K : Nat) (left : Nat) (W : World) : Prop where
  box : Boxed W K 3 (.int .i64 (left : Int))
  res : Boxed3 W (K + 1) 35 (.int .i64 0) (.int .i64 0) (.string ⟨#[]⟩)
  net : Nt W b ρ s bv
  bel : Below K w W
  le : K ≤ w.heap.size
theorem Way.aside {K B : Nat} {l : Nat} {W W' : World} (h : Way w b ρ s bv K l W) (hρ : ∀ g, ρ g ≠ .no → g < B) (hB : K ≤ B) (m : Aside B W W') : Way w b ρ s bv K l W' :=
  ⟨boxed_aside m h.box, h.res.aside m, h.net.aside hρ m, below_aside h.bel m hB (Nat.le_trans h.le h.bel.size), h.le⟩
/-- What is left where the message was taken. -/
structure Got (w : World) (b : Nat) (ρ : Nat → Role) (s' : NS) (K : Nat) (p : Pcl) (W : World) : Prop where
  res : Boxed3 W (K + 1) 35 (.int .i64 p.1) (.int .i64 p.2.1) (.string (str p.2.2))
  net : ∃ ρ', IsN W b ρ' s' ∧ Step w ρ W ρ' ∧ ∀ g, ρ' g ≠ .no → g < K
theorem Got.aside {K B : Nat} {s' : NS} {p : Pcl} {W W' : World} (h : Got w b ρ s' K p W) (hB : K ≤ B) (hw : w.heap.size ≤ B) (m : Aside B W W') : Got w b ρ s' K p W' := by
  obtain ⟨h1, ρ', h2, h3, h4⟩ := h
  refine ⟨h1.aside m, ρ', h2.later m (fun g hg => ?_), h3.aside m hw, h4⟩
  cases hr : ρ' g with
  | no => rfl
  | _ => have := h4 g (by rw [hr]; intro e; cases e); omega
theorem Way.sub {K l n : Nat} {W : World} (h : Way w b ρ s bv K (n + l) W) (hρ : ∀ g, ρ g ≠ .no → g < K) : Way w b ρ s bv K l (W.setCell ⟨K, 0, none⟩ (.int .i64 (l : Int))) := by
  have m : Mod (· = K) W (W.setCell ⟨K, 0, none⟩ (.int .i64 (l : Int))) := (Mod.refl _ W).set1 _
  refine ⟨h.box.set _, h.res.kept m (by omega), h.net.later m (fun g e => ?_), h.bel.setCell (by simp) _, h.le⟩
  subst e
  cases hr : ρ g with
  | no => rfl
  | _ => have := hρ g (by rw [hr]; intro e; cases e); omega
theorem Way.drew {K l : Nat} {W : World} (h : Way w b ρ s bv K l W) : Way w b ρ s bv K l W.drew :=
  h.aside (B := W.heap.size) (fun g hg => h.net.top g hg) (by have := h.box.lt; omega) (Mod.refl _ W).drew
/-- The place in a parcel's cells. -/
def pAt (k : Nat) (t : List UInt8) : Pcl := ((k : Int) / 8, (k : Int) % 8, t)
/-! ### the statement that makes the parcel: its operations in whatever order -/
/-- What holds at every time. -/
def pS (X K k l : Nat) (u : World) : Prop := Boxed2 u X 72 (.int .i64 ((k : Int) / 8)) (.int .i64 ((k : Int) % 8)) ∧ Boxed u K 3 (.int .i64 (l : Int)) ∧ ∃ r0 r1 r2, Boxed3 u (K + 1) 35 r0 r1 r2
/-- Ahead of the call. -/
def pPre (b : Nat) (ρ : Nat → Role) (s : NS) (bv : Nat → Value) (K : Nat) (D : World) (i : Nat) (u : World) : Prop := i = 6 → Nt u b ρ s bv ∧ Mod (· = K + 1) D u
/-- Behind it. -/
def pGot (b : Nat) (ρ : Nat → Role) (s' : NS) (K : Nat) (D u : World) : Prop := ∃ ρ', IsN u b ρ' s' ∧ Mod (fun g => ρ g ≠ .no ∨ g = K + 1) D u ∧ (∀ g, g < K → ρ' g ≠ .no → ρ g ≠ .no) ∧ ∀ g, ρ' g ≠ .no → g < K
def pPost (b : Nat) (ρ : Nat → Role) (s' : NS) (X K k l : Nat) (t : List UInt8) (D : World) (i : Nat) (v : Value) (u : World) : Prop :=
  match i with
  | 0 => v = .pointer (some ⟨X, 0, none⟩)
  | 1 => v = .int .i64 ((k : Int) / 8)
  | 2 => v = .pointer (some ⟨X, 1, none⟩)
  | 3 => v = .int .i64 ((k : Int) % 8)
  | 4 => v = .pointer (some ⟨b, k, none⟩)
  | 5 => v = .int .i64 (l : Int)
  | 6 => v = .string (str t) ∧ pGot b ρ s' K D u
  | 7 => v = .agg #[.int .i64 ((k : Int) / 8), .int .i64 ((k : Int) % 8), .string (str t)]
  | 8 => Boxed3 u (K + 1) 35 (.int .i64 ((k : Int) / 8)) (.int .i64 ((k : Int) % 8)) (.string (str t))
  | _ => True
def pR (ρ : Nat → Role) (K : Nat) (j : Nat) (u u' : World) : Prop := if j = 6 then Mod (fun g => ρ g ≠ .no) u u' else if j = 8 then Mod (· = K + 1) u u' else u' = u
theorem pR_read (ρ : Nat → Role) (K : Nat) {j : Nat} (h6 : j ≠ 6) (h8 : j ≠ 8) (u : World) : pR ρ K j u u := by rw [pR, if_neg h6, if_neg h8]
theorem pPre_later {K : Nat} {D : World} (hρ : ∀ g, ρ g ≠ .no → g < K) (i j : Nat) (u u' : World) (hij : i ≠ j) (hp : pPre b ρ s bv K D i u) (hR : pR ρ K j u u') : pPre b ρ s bv K D i u' := fun h6 => by
  subst h6
  obtain ⟨h1, h2⟩ := hp rfl
  rw [pR, if_neg (Ne.symm hij)] at hR
  split at hR
  · refine ⟨h1.later hR (fun g e => ?_), h2.trans hR⟩
    subst e
    cases hr : ρ (K + 1) with
    | no => rfl
    | _ => have := hρ (K + 1) (by rw [hr]; intro e; cases e); omega
  · rw [hR]; exact ⟨h1, h2⟩
theorem pPost_later {K X k l : Nat} {s' : NS} {t : List UInt8} {D : World} (hρ : ∀ g, ρ g ≠ .no → g < K) (i j : Nat) (v : Value) (u u' : World) (hij : i ≠ j) (hp : pPost b ρ s' X K k l t D i v u) (hR : pR ρ K j u u') : pPost b ρ s' X K k l t D i v u' := by
  have hno : ∀ g, K ≤ g → ¬ ρ g ≠ .no := fun g hg h => by have := hρ g h; omega
  match i, hp with
  | 0, hp => exact hp
  | 1, hp => exact hp
  | 2, hp => exact hp
  | 3, hp => exact hp
  | 4, hp => exact hp
  | 5, hp => exact hp
  | 7, hp => exact hp
  | 6, ⟨h1, ρ', h2, h3, h4, h5⟩ =>
    rw [pR, if_neg (Ne.symm hij)] at hR
    split at hR
    · refine ⟨h1, ρ', h2.later hR (fun g e => ?_), h3.trans (hR.mono (fun g _ e => .inr e)), h4, h5⟩
      subst e
      cases hr : ρ' (K + 1) with
      | no => rfl
      | _ => have := h5 (K + 1) (by rw [hr]; intro e; cases e); omega
    · rw [hR]; exact ⟨h1, ρ', h2, h3, h4, h5⟩
  | 8, hp =>
    rw [pR] at hR
    split at hR
    · exact Boxed3.kept hp hR (hno _ (by omega))
    · rw [if_neg (Ne.symm hij)] at hR
      rw [hR]; exact hp
  | i + 9, _ => trivial
set_option maxRecDepth 100000 in
set_option maxHeartbeats 2000000 in
theorem nettake_in (h : Nt w b ρ s bv) {k0 j0 : Nat} (hk0 : k0 < 64) (hj0 : j0 < (s k0).length) {p : Nat} (hp : p = sum s k0 + j0) :
    CallsIn Fence.wide 8 Try.prog 37 #[.pointer (some ⟨b, 0, none⟩), .int .i64 (p : Int)] w
      (Did w b ρ (s.put k0 ((s k0).eraseIdx j0)) (.agg #[.int .i64 ((k0 : Int) / 8), .int .i64 ((k0 : Int) % 8), .string (str (nth (s k0) j0))])) := by
  obtain ⟨K, HK⟩ : ∃ K, Hid (w.heap.size = K) := ⟨_, Lib.hid rfl⟩
  obtain ⟨W1, HW1⟩ : ∃ W1, Hid ((w.alloc (.cells #[.int .i64 (p : Int)] 3)).alloc (.cells #[.int .i64 0, .int .i64 0, .string ⟨#[]⟩] 35) = W1) := ⟨_, Lib.hid rfl⟩
  have Hb1 : Hid (Below w.heap.size w W1) := Lib.hid (by rw [← HW1.out]; exact balloc ((Below.refl _ _).alloc (Nat.le_refl _) _) _)
  have Hs1 : Hid (W1.heap.size = K + 2) := Lib.hid (by rw [← HW1.out, ← HK.out]; simp)
  have HbS : Hid (Boxed W1 K 3 (.int .i64 (p : Int))) := Lib.hid (by rw [← HW1.out, ← HK.out]; exact (Boxed.new w _ _).alloc _)
  have HbR : Hid (Boxed3 W1 (K + 1) 35 (.int .i64 0) (.int .i64 0) (.string ⟨#[]⟩)) := Lib.hid (by
    have := Boxed3.new (w.alloc (.cells #[.int .i64 (p : Int)] 3)) 35 (.int .i64 0) (.int .i64 0) (.string ⟨#[]⟩)
    rw [World.size_alloc, HK.out, HW1.out] at this; exact this)
  have HN1 := Lib.hid (h.later (Mod.of_below (S := fun _ => False) Hb1.out) (fun _ => False.elim))
  have Hρ : Hid (∀ g, ρ g ≠ .no → g < K) := Lib.hid (fun g hg => by rw [← HK.out]; exact h.top g hg)
  have hbl := h.lt
  have Hm := Lib.hid h.most
  have Hρ1 : Hid (∀ g, ρ g ≠ .no → g < W1.heap.size) := Lib.hid (fun g hg => by have := Hρ.out g hg; have := Hs1.out; omega)
  have HB1 : Hid (K ≤ W1.heap.size) := Lib.hid (by have := Hs1.out; omega)
  have HC1 : Hid (Way w b ρ s bv K p W1) := Lib.hid ⟨HbS.out, HbR.out, HN1.out, by rw [← HK.out]; exact Hb1.out, by rw [HK.out]; exact Nat.le_refl _⟩
  have Hp := Lib.hid hp
  clear h hp
  refine callsIn_of_wp_marks Try.func37 rfl trivial ?_ rfl
  simp only [Try.ntmps37, List.size_toArray, List.length_cons, List.length_nil, Nat.reduceAdd, Nat.reduceSub, Array.replicate_succ, Array.replicate_zero, List.push_toArray, List.append_toArray, List.nil_append, List.cons_append]
  gi_wp2
  rw [HW1.out, HK.out]
  refine (wpIn_wide (n := 8)).2 (wp_scope_straight ((wpIn_wide (n := 8)).1 ?_))
  gi_wp2
  refine wpIn_label ?_
  gi_wp2
  refine over_links rfl (by omega) rfl trivial rfl
    (fun k W => k ≤ k0 ∧ ∃ l, Hid (p = sum s k + l) ∧ Way w b ρ s bv K l W)
    (fun c _ W => c = .ret ∧ Got w b ρ (s.put k0 ((s k0).eraseIdx j0)) K ((k0 : Int) / 8, (k0 : Int) % 8, nth (s k0) j0) W)
    (fun k W W' ⟨h1, l, h2, h⟩ m => ⟨h1, l, h2, h.aside Hρ1.out HB1.out m⟩)
    (fun c k W W' ⟨h1, h⟩ m => ⟨h1, h.aside HB1.out Hb1.out.size m⟩) ⟨Nat.zero_le _, p, Lib.hid (by simp [sum]), HC1.out⟩
    (fun k a' W => ∃ X, K + 1 < X ∧ Boxed2 W X 72 (.int .i64 ((k : Int) / 8)) (.int .i64 ((k : Int) % 8)) ∧ a' = { tmps := #[.pointer (some ⟨b, 0, none⟩), .int .i64 (p : Int), undef, .pointer (some ⟨K, 0, none⟩), .pointer (some ⟨K + 1, 0, none⟩), .pointer (some ⟨X, 0, none⟩), .pointer (some ⟨b, k, none⟩), .pointer (some ⟨b, 0, none⟩), .func (.func 41) #[.pointer (some ⟨b, 0, none⟩)] #[], .agg #[.int .i64 ((k : Int) / 8), .int .i64 ((k : Int) % 8)], .pointer (some ⟨b, k, none⟩), undef, undef, undef, undef, undef, undef, undef, undef, undef, undef, undef, undef, undef, undef, undef, undef, undef], defers := [] }) (fun _ _ _ _ ⟨X, h1, h2, h3⟩ m => ⟨X, h1, h2.aside m, h3⟩)
    ?assign ?body ?done ?stop
  case assign =>
    rintro l k W K' hk ⟨h1, l', h2, hC⟩ hK
    simp only [encL]
    gi_wp2
    exact hK _ _ ((KeepsOthers.alloc _ _).from _) ⟨h1, l', h2, hC.aside (B := W.heap.size) (fun g hg => hC.net.top g hg) (by have := hC.box.lt; omega) (aside_alloc _ _ _)⟩ ⟨W.heap.size, hC.res.lt, Boxed2.new W _ _ _, rfl⟩
  case body =>
    rintro l k a' W hk ⟨h1, l', h2, hC⟩ ⟨X, hX, hbX, rfl⟩
    have mixed : Try.prog.follows .mixedOrders = true := by kernel_rfl
    have ck := hC.net.cell k hk
    obtain ⟨av, cap, hv⟩ := (hC.net.row k hk).slice
    rw [hv] at ck
    have hml := Hm.out k
    have HC := Lib.hid hC
    have HbX := Lib.hid hbX
    have cS := hC.box.cell
    have fS := hC.box.frozen
    have ckd : W.drew.cell? ⟨b, k, none⟩ = some (.slice av (s k).length cap) := ck
    clear hv hC hbX
    by_cases hge : (s k).length ≤ l'
    · have hd : decide ((s k).length ≤ l') = true := by simpa using hge
      obtain ⟨l2, rfl⟩ : ∃ l2, l' = (s k).length + l2 := ⟨l' - (s k).length, by omega⟩
      have hkk : k + 1 ≤ k0 := by
        rcases Nat.lt_or_ge k k0 with h | h
        · exact h
        · have e : k = k0 := by omega
          subst e
          have h3 := h2.out
          have h4 := Hp.out
          omega
      have Hkk := Lib.hid hkk
      have HW := Lib.hid (HC.out.sub Hρ.out)
      have ckd2 : W.drew.drew.cell? ⟨b, k, none⟩ = some (.slice av (s k).length cap) := ck
      have hl2 : l2 ≤ 12800 := by
        have h3 := h2.out
        have h4 := Hp.out
        have h5 := sum_le Hm.out k0
        have h6 := Hm.out k0
        omega
      clear hge hkk
      gi_wp2
      gi_region_with_o (refine ⟨trivial, ?_⟩; refine (CallsIn.inRound l (callsIn_wide.2 (waits_at ckd))).mono ?_; rintro e u1 ⟨rfl, rfl⟩)
      all_goals
        gi_wp2
        gi_region_with_o (refine ⟨trivial, ?_⟩; refine (CallsIn.inRound l (callsIn_wide.2 (waits_at ckd2))).mono ?_; rintro e u1 ⟨rfl, rfl⟩)
        all_goals
          gi_wp2
          have e1 : IntKind.i64.wrap (((s k).length : Int) + (l2 : Int) - ((s k).length : Int)) = (l2 : Int) := by
            rw [IntWalk.i64_in _ (by omega)]; omega
          rw [e1]
          exact ⟨(((KeepsOthers.setCell _ _ _).trans (KeepsOthers.drew _)).trans (KeepsOthers.drew _)).from _, Hkk.out, l2, Lib.hid (by rw [h2.out]; simp only [sum]; omega), HW.out.drew.drew⟩
    · have hd : decide ((s k).length ≤ l') = false := by simpa using hge
      have e0 : k = k0 := by
        rcases Nat.lt_or_ge k k0 with h | h
        · have h3 := h2.out
          have h4 := Hp.out
          have h5 := sum_mono s (show k + 1 ≤ k0 by omega)
          simp only [sum] at h5
          omega
        · omega
      subst e0
      have e1 : l' = j0 := by
        have h3 := h2.out
        have h4 := Hp.out
        omega
      subst e1
      have HntD : Hid (Nt W.drew.drew b ρ s bv) := Lib.hid HC.out.drew.drew.net
      have Hno : Hid (∀ g, K ≤ g → ¬ ρ g ≠ .no) := Lib.hid fun g hg h => by have := Hρ.out g h; omega
      have HS0 : Hid (pS X K k l' W.drew.drew) := Lib.hid ⟨HbX.out, HC.out.box, _, _, _, HC.out.res⟩
      clear hge
      gi_wp2
      gi_region_with_o (refine ⟨trivial, ?_⟩; refine (CallsIn.inRound l (callsIn_wide.2 (waits_at ckd))).mono ?_; rintro e u1 ⟨rfl, rfl⟩)
      all_goals
        gi_wp2
        refine region_inv mixed (pS X K k l') (pPre b ρ s bv K W.drew.drew) (pPost b ρ (s.put k ((s k).eraseIdx l')) X K k l' (nth (s k) l') W.drew.drew) (pR ρ K) HS0.out (fun i h => ⟨HntD.out, Mod.refl _ _⟩) (by kernel_rfl) (by kernel_rfl) (by kernel_rfl) (pPre_later Hρ.out) (pPost_later Hρ.out) ?hop ?hend
        case hend =>
          intro act u hdf hsz hS hrd hdn
          have h8 := hdn 8 _ rfl
          have h6 := hdn 6 _ rfl
          gi_wp2
          obtain ⟨_, ρ', hN, hm, hnew, hlt⟩ := h6
          have hm' : Mod (fun g => ρ g ≠ .no ∨ g = K + 1) W u := ⟨hm.os, hm.tape, hm.output, hm.size, hm.block⟩
          refine ⟨keeps_mod hm' (fun g hg => ?_), rfl, h8, ρ', hN, ⟨⟨hm'.os.trans HC.out.bel.os, hm'.tape.trans HC.out.bel.tape, hm'.output.trans HC.out.bel.output, Nat.le_trans HC.out.bel.size hm'.size, fun i hi hn => ?_⟩, fun g hg => hnew g (by rw [← HK.out]; exact hg)⟩, hlt⟩
          · have := Hs1.out
            rcases hg with hg | rfl
            · have := Hρ.out g hg; omega
            · omega
          · have hiK : i < K := by rw [← HK.out]; exact hi
            refine (hm'.block i (Nat.lt_of_lt_of_le hi HC.out.bel.size) (fun h => ?_)).trans (HC.out.bel.block i hiK)
            rcases h with h | rfl
            · exact hn h
            · omega
        case hop =>
          refine of_allOps ?_
          refine And.intro ?_ (And.intro ?_ (And.intro ?_ (And.intro ?_ (And.intro ?_ (And.intro ?_ (And.intro ?_ (And.intro ?_ (And.intro ?_ trivial))))))))
          · intro act u hdf hS hp hrd hdp K' hK
            have r5 : act.tmps.getD 5 undef = .pointer (some ⟨X, 0, none⟩) := hrd 5 (by decide)
            refine op_value (v := .pointer (some ⟨X, 0, none⟩)) (w' := u) (free_round _ _) rfl (by simp) ?_ (hK.out _ _ hS (pR_read _ _ (by decide) (by decide) _) rfl)
            simp only [execOp, Act.eval, r5]
            go_simp
          · intro act u hdf hS hp hrd hdp K' hK
            have p0 : act.tmps.getD 19 undef = .pointer (some ⟨X, 0, none⟩) := hdp ⟨0, .data⟩ (by simp) rfl _ rfl
            have c0 := hS.1.cell0
            refine op_value (v := .int .i64 ((k : Int) / 8)) (w' := u) (free_round _ _) rfl (by simp) ?_ (hK.out _ _ hS (pR_read _ _ (by decide) (by decide) _) rfl)
            simp only [execOp, Act.eval, p0]
            go_simp
          · intro act u hdf hS hp hrd hdp K' hK
            have r5 : act.tmps.getD 5 undef = .pointer (some ⟨X, 0, none⟩) := hrd 5 (by decide)
            refine op_value (v := .pointer (some ⟨X, 1, none⟩)) (w' := u) (free_round _ _) rfl (by simp) ?_ (hK.out _ _ hS (pR_read _ _ (by decide) (by decide) _) rfl)
            simp only [execOp, Act.eval, r5]
            go_simp
          · intro act u hdf hS hp hrd hdp K' hK
            have p2 : act.tmps.getD 21 undef = .pointer (some ⟨X, 1, none⟩) := hdp ⟨2, .data⟩ (by simp) rfl _ rfl
            have c1 := hS.1.cell1
            refine op_value (v := .int .i64 ((k : Int) % 8)) (w' := u) (free_round _ _) rfl (by simp) ?_ (hK.out _ _ hS (pR_read _ _ (by decide) (by decide) _) rfl)
            simp only [execOp, Act.eval, p2]
            go_simp
          · intro act u hdf hS hp hrd hdp K' hK
            have r6 : act.tmps.getD 6 undef = .pointer (some ⟨b, k, none⟩) := hrd 6 (by decide)
            refine op_value (v := .pointer (some ⟨b, k, none⟩)) (w' := u) (free_round _ _) rfl (by simp) ?_ (hK.out _ _ hS (pR_read _ _ (by decide) (by decide) _) rfl)
            simp only [execOp, Act.eval, r6]
            go_simp
          · intro act u hdf hS hp hrd hdp K' hK
            have r3 : act.tmps.getD 3 undef = .pointer (some ⟨K, 0, none⟩) := hrd 3 (by decide)
            have c0 := hS.2.1.cell
            refine op_value (v := .int .i64 (l' : Int)) (w' := u) (free_round _ _) rfl (by simp) ?_ (hK.out _ _ hS (pR_read _ _ (by decide) (by decide) _) rfl)
            simp only [execOp, Act.eval, r3]
            go_simp
          · intro act u hdf hS hp hrd hdp K' hK
            have p4 : act.tmps.getD 23 undef = .pointer (some ⟨b, k, none⟩) := hdp ⟨4, .data⟩ (by simp) rfl _ rfl
            have p5 : act.tmps.getD 24 undef = .int .i64 (l' : Int) := hdp ⟨5, .data⟩ (by simp) rfl _ rfl
            obtain ⟨hn, hm⟩ := hp rfl
            refine op_call (f := 32) (args := #[.pointer (some ⟨b, k, none⟩), .int .i64 (l' : Int)]) (v := .string (str (nth (s k) l'))) (fun u' => (∃ ρ', IsN u' b ρ' (s.put k ((s k).eraseIdx l')) ∧ Step u ρ u' ρ') ∧ u'.heap.size = u.heap.size) (free_round _ _) rfl (by simp) ?_ ((take_nth2 hn hk hj0).mono fun e u' h => ⟨h.1.1, h.1.2, h.2⟩) ?_
            · simp only [execOp]
              go_simp
            · rintro u' ⟨⟨ρ', h1, h2⟩, h3⟩
              refine hK.out _ _ ?_ ?_ ?_
              · obtain ⟨q1, q2, r0, r1, r2, q3⟩ := hS
                exact ⟨q1.kept h2.mod (Hno.out _ (by omega)), boxed_kept q2 h2.mod (Hno.out _ (Nat.le_refl _)), r0, r1, r2, q3.kept h2.mod (Hno.out _ (by omega))⟩
              · rw [pR, if_pos rfl]; exact h2.mod
              · have hsz : K < u.heap.size := hS.2.1.lt
                have hnew : ∀ g, ρ' g ≠ .no → ρ g ≠ .no := fun g hg => h2.new g (by have := h1.top g hg; omega) hg
                exact ⟨rfl, ρ', h1, (hm.mono fun _ _ e => .inr e).trans (h2.mod.mono fun _ _ e => .inl e), fun g _ hg => hnew g hg, fun g hg => Hρ.out g (hnew g hg)⟩
          · intro act u hdf hS hp hrd hdp K' hK
            have p1 : act.tmps.getD 20 undef = .int .i64 ((k : Int) / 8) := hdp ⟨1, .data⟩ (by simp) rfl _ rfl
            have p3 : act.tmps.getD 22 undef = .int .i64 ((k : Int) % 8) := hdp ⟨3, .data⟩ (by simp) rfl _ rfl
            have p6 : act.tmps.getD 25 undef = .string (str (nth (s k) l')) := (hdp ⟨6, .data⟩ (by simp) rfl _ rfl).1
            refine op_value (v := .agg #[.int .i64 ((k : Int) / 8), .int .i64 ((k : Int) % 8), .string (str (nth (s k) l'))]) (w' := u) (free_round _ _) rfl (by simp) ?_ (hK.out _ _ hS (pR_read _ _ (by decide) (by decide) _) rfl)
            simp only [execOp, Act.eval, p1, p3, p6, List.map_toArray, List.map_cons, List.map_nil]
            go_simp
          · intro act u hdf hS hp hrd hdp K' hK
            have r4 : act.tmps.getD 4 undef = .pointer (some ⟨K + 1, 0, none⟩) := hrd 4 (by decide)
            have p7 : act.tmps.getD 26 undef = .agg #[.int .i64 ((k : Int) / 8), .int .i64 ((k : Int) % 8), .string (str (nth (s k) l'))] := hdp ⟨7, .data⟩ (by simp) rfl _ rfl
            obtain ⟨q1, q2, r0, r1, r2, q3⟩ := hS
            have c0 := q3.cell0
            have c1 := q3.cell1
            have c2 := q3.cell2
            have f0 := q3.frozen 0
            have f1 := q3.frozen 1
            have f2 := q3.frozen 2
            have m : Mod (· = K + 1) u (((u.setCell ⟨K + 1, 0, none⟩ (.int .i64 ((k : Int) / 8))).setCell ⟨K + 1, 1, none⟩ (.int .i64 ((k : Int) % 8))).setCell ⟨K + 1, 2, none⟩ (.string (str (nth (s k) l')))) := (((Mod.refl _ u).set1 _).set1 _).set1 _
            refine op_skip (w' := ((u.setCell ⟨K + 1, 0, none⟩ (.int .i64 ((k : Int) / 8))).setCell ⟨K + 1, 1, none⟩ (.int .i64 ((k : Int) % 8))).setCell ⟨K + 1, 2, none⟩ (.string (str (nth (s k) l')))) (free_round _ _) rfl (by simp) ?_ (hK.out undef _ ⟨q1.kept m (by omega), boxed_kept q2 m (by omega), _, _, _, q3.set _ _ _⟩ (by rw [pR, if_neg (by decide), if_pos rfl]; exact m) (q3.set _ _ _))
            simp only [execOp, Act.eval, r4, p7]
            go_simp
  case done =>
    rintro D W hD ⟨h64, _⟩
    omega
  case stop =>
    rintro D c k W hD hk ⟨rfl, hG⟩ hK
    have cR0 := hG.res.cell0
    have cR1 := hG.res.cell1
    have cR2 := hG.res.cell2
    have HG := Lib.hid hG
    clear hG
    gi_wp2
    refine ⟨by simp, .inl ⟨_, _, rfl, run_takeDeferred hK, ?_⟩⟩
    have hput := aside_put (B := w.heap.size) (W := W) (l := D) (by have := HK.out; have := Hs1.out; omega) hK rfl (.deferred none)
    have hG2 := HG.out.aside (by rw [HK.out]; exact Nat.le_refl _) (Nat.le_refl _) hput
    have c0 := hG2.res.cell0
    have c1 := hG2.res.cell1
    have c2 := hG2.res.cell2
    obtain ⟨ρ', h1, h2, _⟩ := hG2.net
    refine ⟨.agg #[.int .i64 ((k0 : Int) / 8), .int .i64 ((k0 : Int) % 8), .string (str (nth (s k0) j0))], ?_, rfl, ρ', h1, h2⟩
    simp [results, Try.f37, go_sem, c0, c1, c2]
end
end Go.Proofs.Ytakhhpakajafkaa
