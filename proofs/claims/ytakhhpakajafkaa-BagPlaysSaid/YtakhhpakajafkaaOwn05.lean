/- A network of a statement's own: what each call gives, said of what the network holds alone, with what the statement keeps beside it. -/
import Derived.Test.YtakhhpakajafkaaNone05
namespace Go.Proofs.Ytakhhpakajafkaa
open Go.RowKit

/-- Beside blocks T of the statement's own, a network lies in new blocks; all that lay there is as it was. -/
def Own (W w : World) (b : Nat) (s : NS) (T : Nat → Prop) : Prop :=
  ∃ ρ, IsN w b ρ s ∧ (∀ g, ρ g ≠ .no → W.heap.size ≤ g ∧ ¬ T g) ∧ Below W.heap.size W w ∧ ∀ g, T g → g < w.heap.size
/-- What a call does to memory: it leaves what lay there, and T. -/
def Left (W : World) (T : Nat → Prop) (w w' : World) : Prop := Mod (fun g => W.heap.size ≤ g ∧ ¬ T g) w w'
section
variable {W w w' : World} {b : Nat} {s s' : NS} {T : Nat → Prop}
theorem Own.below (h : Own W w b s T) : Below W.heap.size W w := by obtain ⟨ρ, _, _, h, _⟩ := h; exact h
theorem Own.most (h : Own W w b s T) : ∀ k, (s k).length ≤ 200 := by obtain ⟨ρ, h, _⟩ := h; exact h.most
theorem Own.diag (h : Own W w b s T) : ∀ i, i < 8 → s (9 * i) = [] := by obtain ⟨ρ, h, _⟩ := h; exact h.diag
theorem Own.later (h : Own W w b s T) (m : Below w.heap.size w w') : Own W w' b s T := by
  obtain ⟨ρ, h1, h2, h3, h4⟩ := h
  exact ⟨ρ, h1.below m, h2, bnext h3 m, fun g hg => Nat.lt_of_lt_of_le (h4 g hg) m.size⟩
/-- One block more of the statement's own. -/
theorem Own.alloc (h : Own W w b s T) (o : Obj) : Own W (w.alloc o) b s (fun g => T g ∨ g = w.heap.size) := by
  obtain ⟨ρ, h1, h2, h3, h4⟩ := h
  refine ⟨ρ, h1.below ((Below.refl _ _).alloc (Nat.le_refl _) _), fun g hg => ⟨(h2 g hg).1, fun hT => ?_⟩, balloc h3 _, fun g hg => ?_⟩
  · rcases hT with hT | rfl
    · exact (h2 g hg).2 hT
    · have := h1.top _ hg; omega
  · rcases hg with hg | rfl
    · have := h4 g hg; simp; omega
    · simp
theorem Own.set (h : Own W w b s T) {q o : Nat} (hq : T q) (hW : W.heap.size ≤ q) (v : Value) : Own W (w.setCell ⟨q, o, none⟩ v) b s T := by
  obtain ⟨ρ, h1, h2, h3, h4⟩ := h
  refine ⟨ρ, h1.later (S := (· = q)) ((Mod.refl _ w).set1 v) (fun g e => ?_), h2, h3.setCell hW v, fun g hg => by have := h4 g hg; simpa [World.setCell] using this⟩
  subst e
  cases hr : ρ g with
  | no => rfl
  | _ => exact absurd hq (h2 g (by rw [hr]; intro e; cases e)).2
theorem Own.weak (h : Own W w b s T) {T' : Nat → Prop} (hT : ∀ g, T' g → T g) : Own W w b s T' := by
  obtain ⟨ρ, h1, h2, h3, h4⟩ := h
  exact ⟨ρ, h1, fun g hg => ⟨(h2 g hg).1, fun h => (h2 g hg).2 (hT g h)⟩, h3, fun g hg => h4 g (hT g hg)⟩
/-- Blocks of the statement's own turn, and new ones come, some of which are its own from now on. -/
theorem Own.turn (h : Own W w b s T) (m : Mod T w w') (hT0 : ∀ g, T g → W.heap.size ≤ g) {T' : Nat → Prop} (hT : ∀ g, T' g → T g ∨ w.heap.size ≤ g) (hl : ∀ g, T' g → g < w'.heap.size) : Own W w' b s T' := by
  obtain ⟨ρ, h1, h2, h3, h4⟩ := h
  refine ⟨ρ, h1.later m (fun g hg => ?_), fun g hg => ⟨(h2 g hg).1, fun h => ?_⟩, h3.trans ⟨m.os, m.tape, m.output, m.size, fun i hi => m.block i (Nat.lt_of_lt_of_le hi h3.size) (fun hTi => by have := hT0 i hTi; omega)⟩, hl⟩
  · cases hr : ρ g with
    | no => rfl
    | _ => exact absurd hg (h2 g (by rw [hr]; intro e; cases e)).2
  · rcases hT g h with h | h
    · exact (h2 g hg).2 h
    · have := h1.top g hg; omega
theorem Own.lift (h : Own W w b s T) {f : FuncId} {args : Array Value} {v : Value} (hc : ∀ ρ, IsN w b ρ s → Calls Try.prog f args w (Did w b ρ s' v)) :
    Calls Try.prog f args w fun e w' => e = .returned v ∧ Own W w' b s' T ∧ Left W T w w' := by
  obtain ⟨ρ, h1, h2, h3, h4⟩ := h
  refine (hc ρ h1).mono ?_
  rintro e w' ⟨he, ρ', h5, h6⟩
  have hm : Left W T w w' := h6.mod.mono fun k _ hk => h2 k hk
  refine ⟨he, ⟨ρ', h5, fun g hg => ?_, h3.trans ⟨hm.os, hm.tape, hm.output, hm.size, fun i hi => hm.block i (Nat.lt_of_lt_of_le hi h3.size) (fun h => by omega)⟩, fun g hg => Nat.lt_of_lt_of_le (h4 g hg) hm.size⟩, hm⟩
  rcases Nat.lt_or_ge g w.heap.size with hlt | hge
  · exact h2 g (h6.new g hlt hg)
  · exact ⟨Nat.le_trans h3.size hge, fun hT => by have := h4 g hT; omega⟩
theorem Own.read (h : Own W w b s T) {f : FuncId} {args : Array Value} {Q : Ending → World → Prop} (hc : ∀ ρ, IsN w b ρ s → Calls Try.prog f args w Q) : Calls Try.prog f args w Q := by
  obtain ⟨ρ, h1, h2, h3, h4⟩ := h
  exact hc ρ h1
theorem Left.cell (h : Left W T w w') {q o : Nat} (hq : T q) (hl : q < w.heap.size) : w'.cell? ⟨q, o, none⟩ = w.cell? ⟨q, o, none⟩ := Mod.cell h (p := ⟨q, o, none⟩) hl (fun h => h.2 hq)
theorem Left.frozen (h : Left W T w w') {q o : Nat} (hq : T q) (hl : q < w.heap.size) : w'.frozen? ⟨q, o, none⟩ = w.frozen? ⟨q, o, none⟩ := Mod.frozen h (p := ⟨q, o, none⟩) hl (fun h => h.2 hq)
/-- What the statement keeps stays. -/
theorem Left.row (m : Left W T w w') {size : Nat} {v : Value} {n : Nat} {xs : List Value} (h : Row w size v n xs) (hT : ∀ g, blk v = some g → T g) : Row w' size v n xs := h.later m (fun g hg hn => hn.2 (hT g hg))
theorem Left.below (m : Left W T w w') (hW : W.heap.size ≤ w.heap.size) : Below W.heap.size w w' := ⟨m.os, m.tape, m.output, m.size, fun i hi => m.block i (Nat.lt_of_lt_of_le hi hW) (fun h => by omega)⟩
/-! ### the calls -/
theorem New_own (W : World) (hb : Below W.heap.size W w) :
    Calls Try.prog 11 #[] w fun e w' => ∃ b, e = .returned (.pointer (some ⟨b, 0, none⟩)) ∧ Own W w' b NS.none (fun _ => False) ∧ Below w.heap.size w w' := by
  refine (New_any w).mono ?_
  rintro e w' ⟨he, hN, hb', _⟩
  exact ⟨w.heap.size, he, ⟨_, hN, fun g hg => ⟨by rw [oneHead_ne hg]; exact hb.size, id⟩, bnext hb hb', fun _ => False.elim⟩, hb'⟩
theorem Waits_own (h : Own W w b s T) (i j : Int) :
    Calls Try.prog 27 #[.pointer (some ⟨b, 0, none⟩), .int .i64 i, .int .i64 j] w fun e w' => e = .returned (.int .i64 ((onL s i j).length : Int)) ∧ w = w' := h.read fun _ ⟨_, h⟩ => Waits_any h i j
theorem Send_own (h : Own W w b s T) (i j : Int) (l : List UInt8) (hl : l.length ≤ 9223372036854775807) :
    Calls Try.prog 22 #[.pointer (some ⟨b, 0, none⟩), .int .i64 i, .int .i64 j, .string (str l)] w fun e w' => e = .returned (.bool (sendB s i j l)) ∧ Own W w' b (sendS s i j l) T ∧ Left W T w w' := h.lift fun _ ⟨_, h⟩ => Send_any h i j l hl
theorem Take_own (h : Own W w b s T) (i j : Int) {x : Int} (hx : (Lit.int .i64 x).wf = true) :
    Calls Try.prog 12 #[.pointer (some ⟨b, 0, none⟩), .int .i64 i, .int .i64 j, .int .i64 x] w fun e w' => e = .returned (.tuple #[.string (str (tkT s i j x)), .bool (tkB s i j)]) ∧ Own W w' b (tkS s i j x) T ∧ Left W T w w' := h.lift fun _ ⟨_, h⟩ => Take_any h i j hx
theorem Drop_own (h : Own W w b s T) (i j : Int) {x : Int} (hx : (Lit.int .i64 x).wf = true) :
    Calls Try.prog 16 #[.pointer (some ⟨b, 0, none⟩), .int .i64 i, .int .i64 j, .int .i64 x] w fun e w' => e = .returned (.bool (tkB s i j)) ∧ Own W w' b (tkS s i j x) T ∧ Left W T w w' := h.lift fun _ ⟨_, h⟩ => Drop_any h i j hx
theorem Double_own (h : Own W w b s T) (i j : Int) {x : Int} (hx : (Lit.int .i64 x).wf = true) :
    Calls Try.prog 17 #[.pointer (some ⟨b, 0, none⟩), .int .i64 i, .int .i64 j, .int .i64 x] w fun e w' => e = .returned (.bool (dbB s i j)) ∧ Own W w' b (dbS s i j x) T ∧ Left W T w w' := h.lift fun _ ⟨_, h⟩ => Double_any h i j hx
theorem Void_own (h : Own W w b s T) (d : Int) :
    Calls Try.prog 19 #[.pointer (some ⟨b, 0, none⟩), .int .i64 d] w fun e w' => e = .returned (.int .i64 (voidN s d 64 : Int)) ∧ Own W w' b (voidS s d 64) T ∧ Left W T w w' := h.lift fun _ h => Void_any h d
theorem All_own (h : Own W w b s T) :
    Calls Try.prog 25 #[.pointer (some ⟨b, 0, none⟩)] w (Parcels w (allN s 64)) := h.read fun _ h => All_any h
theorem AnyNone_own (h : Own W w b s T) (x : Int) (h0 : sum s 64 = 0) :
    Calls Try.prog 14 #[.pointer (some ⟨b, 0, none⟩), .int .i64 x] w fun e w' => e = .returned (.tuple #[zeroP, .bool false]) ∧ Own W w' b s T ∧ Left W T w w' := h.lift fun _ h => Any_none h x h0
/-- What Any tells and leaves. -/
def AnyOwn (W w : World) (b : Nat) (s : NS) (T : Nat → Prop) (x : Int) (e : Ending) (w' : World) : Prop :=
  ∃ k j, k < 64 ∧ j < (s k).length ∧ wh x (sum s 64) = sum s k + j ∧ e = .returned (.tuple #[pV k (nth (s k) j), .bool true]) ∧ Own W w' b (s.put k ((s k).eraseIdx j)) T ∧ Left W T w w'
theorem Any_own (h : Own W w b s T) {x : Int} (hx : (Lit.int .i64 x).wf = true) (h0 : 0 < sum s 64) :
    Calls Try.prog 14 #[.pointer (some ⟨b, 0, none⟩), .int .i64 x] w (AnyOwn W w b s T x) := by
  obtain ⟨k, j, hk, hj, hp⟩ := spot 64 (wh_lt x h0)
  refine Calls.mono (h.lift (v := .tuple #[pV k (nth (s k) j), .bool true]) (s' := s.put k ((s k).eraseIdx j)) fun ρ h => (Any_some h hx h0).mono ?_) (fun e w' h => ⟨k, j, hk, hj, hp, h⟩)
  rintro e w' ⟨k', j', hk', hj', hp', hD⟩
  have hkk : k' = k := by
    rcases Nat.lt_trichotomy k k' with h1 | h1 | h1
    · have := sum_mono s (show k + 1 ≤ k' by omega)
      simp only [sum] at this
      omega
    · exact h1.symm
    · have := sum_mono s (show k' + 1 ≤ k by omega)
      simp only [sum] at this
      omega
  subst hkk
  have hjj : j' = j := by omega
  subst hjj
  exact hD
end
end Go.Proofs.Ytakhhpakajafkaa
