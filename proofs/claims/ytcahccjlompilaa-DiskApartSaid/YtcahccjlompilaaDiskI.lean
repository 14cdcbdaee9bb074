/- A disk of a statement's own: what each call gives, said of what the disk holds alone, with what the statement keeps beside it. -/
import Derived.Test.YtcahccjlompilaaDiskE
import Derived.Test.YtcahccjlompilaaDiskNew
namespace Go.Proofs.Ytcahccjlompilaa
open Go.RowKit Go.MapKept

/-- Beside blocks T of the statement's own, a disk lies in new blocks; all that lay there is as it was. -/
def Own (W w : World) (b n : Nat) (s : DS) (T : Nat → Prop) : Prop :=
  ∃ ρ, IsD w b ρ n s ∧ (∀ g, ρ g ≠ .no → W.heap.size ≤ g ∧ ¬ T g) ∧ Below W.heap.size W w ∧ ∀ g, T g → g < w.heap.size
/-- What a call does to memory: it leaves what lay there, and T. -/
def Left (W : World) (T : Nat → Prop) (w w' : World) : Prop := Mod (fun g => W.heap.size ≤ g ∧ ¬ T g) w w'
section
variable {W w w' : World} {b n : Nat} {s s' : DS} {T : Nat → Prop}
theorem Own.below (h : Own W w b n s T) : Below W.heap.size W w := by obtain ⟨ρ, _, _, h, _⟩ := h; exact h
theorem Own.fine (h : Own W w b n s T) : Fine s n := by obtain ⟨ρ, h, _⟩ := h; exact h.fine
theorem Own.later (h : Own W w b n s T) (m : Below w.heap.size w w') : Own W w' b n s T := by
  obtain ⟨ρ, h1, h2, h3, h4⟩ := h
  exact ⟨ρ, h1.below m, h2, bnext h3 m, fun g hg => Nat.lt_of_lt_of_le (h4 g hg) m.size⟩
theorem Own.mono (h : Own W w b n s T) {n' : Nat} (hn : n ≤ n') (hs : n' ≤ 1000000) : Own W w b n' s T := by
  obtain ⟨ρ, h1, h2, h3, h4⟩ := h
  exact ⟨ρ, h1.mono hn hs, h2, h3, h4⟩
/-- One block more of the statement's own. -/
theorem Own.alloc (h : Own W w b n s T) (o : Obj) : Own W (w.alloc o) b n s (fun g => T g ∨ g = w.heap.size) := by
  obtain ⟨ρ, h1, h2, h3, h4⟩ := h
  refine ⟨ρ, h1.below ((Below.refl _ _).alloc (Nat.le_refl _) _), fun g hg => ⟨(h2 g hg).1, fun hT => ?_⟩, balloc h3 _, fun g hg => ?_⟩
  · rcases hT with hT | rfl
    · exact (h2 g hg).2 hT
    · have := h1.top _ hg; omega
  · rcases hg with hg | rfl
    · have := h4 g hg; simp; omega
    · simp
theorem Own.set (h : Own W w b n s T) {q o : Nat} (hq : T q) (hW : W.heap.size ≤ q) (v : Value) : Own W (w.setCell ⟨q, o, none⟩ v) b n s T := by
  obtain ⟨ρ, h1, h2, h3, h4⟩ := h
  refine ⟨ρ, h1.later (S := (· = q)) ((Mod.refl _ w).set1 v) (fun g e => ?_), h2, h3.setCell hW v, fun g hg => by have := h4 g hg; simpa [World.setCell] using this⟩
  subst e
  cases hr : ρ g with
  | no => rfl
  | _ => exact absurd hq (h2 g (by rw [hr]; intro e; cases e)).2
theorem Own.weak (h : Own W w b n s T) {T' : Nat → Prop} (hT : ∀ g, T' g → T g) : Own W w b n s T' := by
  obtain ⟨ρ, h1, h2, h3, h4⟩ := h
  exact ⟨ρ, h1, fun g hg => ⟨(h2 g hg).1, fun h => (h2 g hg).2 (hT g h)⟩, h3, fun g hg => h4 g (hT g hg)⟩
theorem Own.lift (h : Own W w b n s T) {f : FuncId} {args : Array Value} {v : Value} {n' : Nat} (hc : ∀ ρ lb kb cb pv cf, Dk w b ρ n s lb kb cb pv cf → (∀ g, g < W.heap.size ∨ T g → ρ g = .no) → Calls Try.prog f args w (Did w b ρ n' s' v)) :
    Calls Try.prog f args w fun e w' => e = .returned v ∧ Own W w' b n' s' T ∧ Left W T w w' := by
  obtain ⟨ρ, ⟨lb, kb, cb, pv, cf, h1⟩, h2, h3, h4⟩ := h
  refine (hc ρ lb kb cb pv cf h1 (fun g hg => ?_)).mono ?_
  · cases hr : ρ g with
    | no => rfl
    | _ =>
      have h5 := h2 g (by rw [hr]; intro e; cases e)
      exact absurd hg (fun h => h.elim (fun h => by omega) h5.2)
  · rintro e w' ⟨he, ρ', h5, h6⟩
    have hm : Left W T w w' := h6.mod.mono fun k _ hk => h2 k hk
    refine ⟨he, ⟨ρ', h5, fun g hg => ?_, h3.trans ⟨hm.os, hm.tape, hm.output, hm.size, fun i hi => hm.block i (Nat.lt_of_lt_of_le hi h3.size) (fun h => by omega)⟩, fun g hg => Nat.lt_of_lt_of_le (h4 g hg) hm.size⟩, hm⟩
    rcases Nat.lt_or_ge g w.heap.size with hlt | hge
    · exact h2 g (h6.new g hlt hg)
    · exact ⟨Nat.le_trans h3.size hge, fun hT => by have := h4 g hT; omega⟩
theorem Own.read (h : Own W w b n s T) {f : FuncId} {args : Array Value} {v : Value} (hc : ∀ ρ lb kb cb pv cf, Dk w b ρ n s lb kb cb pv cf → Calls Try.prog f args w (fun e w' => e = .returned v ∧ w = w')) :
    Calls Try.prog f args w fun e w' => e = .returned v ∧ w = w' := by
  obtain ⟨ρ, ⟨lb, kb, cb, pv, cf, h1⟩, h2, h3, h4⟩ := h
  exact hc ρ lb kb cb pv cf h1
theorem Left.cell (h : Left W T w w') {q o : Nat} (hq : T q) (hl : q < w.heap.size) : w'.cell? ⟨q, o, none⟩ = w.cell? ⟨q, o, none⟩ := Mod.cell h (p := ⟨q, o, none⟩) hl (fun h => h.2 hq)
theorem Left.frozen (h : Left W T w w') {q o : Nat} (hq : T q) (hl : q < w.heap.size) : w'.frozen? ⟨q, o, none⟩ = w.frozen? ⟨q, o, none⟩ := Mod.frozen h (p := ⟨q, o, none⟩) hl (fun h => h.2 hq)
/-! ### the calls -/
theorem New_own (W : World) (k : Int) (hk : (Lit.int .i64 k).wf = true) (hb : Below W.heap.size W w) :
    Calls Try.prog 11 #[.int .i64 k] w fun e w' => ∃ b, e = .returned (.pointer (some ⟨b, 0, none⟩)) ∧ Own W w' b 0 (DS.new (sectorsN k)) (fun _ => False) ∧ Below w.heap.size w w' := by
  refine (New_any k hk w).mono ?_
  rintro e w' ⟨b, ρ, he, hD, hρ, hb'⟩
  exact ⟨b, he, ⟨ρ, hD, fun g hg => ⟨Nat.le_trans hb.size (hρ g hg), id⟩, bnext hb hb', fun _ => False.elim⟩, hb'⟩
theorem Register_own (h : Own W w b n s T) {k : Int} (hk : (Lit.int .i64 k).wf = true) (hn : n + 1 ≤ 1000000) :
    Calls Try.prog 15 #[.pointer (some ⟨b, 0, none⟩), .int .i64 k] w fun e w' => e = .returned (.int .i64 (regE s k)) ∧ Own W w' b (n + 1) (regS s k) T ∧ Left W T w w' :=
  h.lift fun _ _ _ _ _ _ h _ => Register_any h hk hn
theorem Registered_own (h : Own W w b n s T) {k : Int} (hk : (Lit.int .i64 k).wf = true) :
    Calls Try.prog 40 #[.pointer (some ⟨b, 0, none⟩), .int .i64 k] w fun e w' => e = .returned (.bool (s.keys k == 1)) ∧ w = w' := h.read fun _ _ _ _ _ _ h => Registered_any h hk
theorem Cached_own (h : Own W w b n s T) {k : Int} (hk : (Lit.int .i64 k).wf = true) :
    Calls Try.prog 38 #[.pointer (some ⟨b, 0, none⟩), .int .i64 k] w fun e w' => e = .returned (.int .i64 ((s.caches k).length : Int)) ∧ w = w' := h.read fun _ _ _ _ _ _ h => Cached_any h hk
theorem Peek_own (h : Own W w b n s T) (i : Int) :
    Calls Try.prog 22 #[.pointer (some ⟨b, 0, none⟩), .int .i64 i] w fun e w' => e = .returned (.string (str (lieI s i))) ∧ w = w' := h.read fun _ _ _ _ _ _ h => Peek_any h i
theorem Write_own (h : Own W w b n s T) {k : Int} {i : Nat} {l : List UInt8} (hk : (Lit.int .i64 k).wf = true) (hi : i < s.lies.length) (hl : l.length = 512) (hr : s.keys k = 1) (hn : n + 1 ≤ 1000000) :
    Calls Try.prog 17 #[.pointer (some ⟨b, 0, none⟩), .int .i64 k, .int .i64 (i : Int), .string (str l)] w fun e w' => e = .returned (.int .i64 0) ∧ Own W w' b (n + 1) (s.cacheTo k (s.caches k ++ [(i, l)])) T ∧ Left W T w w' :=
  h.lift fun _ _ _ _ _ _ h _ => Write_yes h hk hi hl hr hn
theorem Write_fenced (h : Own W w b n s T) {k i : Int} {l : List UInt8} (hk : (Lit.int .i64 k).wf = true) (ht : thereB s i = true) (hl : l.length = 512) (hr : s.keys k ≠ 1) :
    Calls Try.prog 17 #[.pointer (some ⟨b, 0, none⟩), .int .i64 k, .int .i64 i, .string (str l)] w fun e w' => e = .returned (.int .i64 14) ∧ w = w' :=
  h.read fun _ _ _ _ _ _ h => Write_no h hk ht hl hr
theorem Flush_own (h : Own W w b n s T) {k : Int} (hk : (Lit.int .i64 k).wf = true) (hr : s.keys k = 1) :
    Calls Try.prog 20 #[.pointer (some ⟨b, 0, none⟩), .int .i64 k] w fun e w' => e = .returned (.int .i64 0) ∧ Own W w' b n (s.settle k (fun _ => true)) T ∧ Left W T w w' :=
  h.lift fun _ _ _ _ _ _ h _ => Flush_yes h hk hr
theorem Flush_fenced (h : Own W w b n s T) {k : Int} (hk : (Lit.int .i64 k).wf = true) (hr : s.keys k ≠ 1) :
    Calls Try.prog 20 #[.pointer (some ⟨b, 0, none⟩), .int .i64 k] w fun e w' => e = .returned (.int .i64 14) ∧ w = w' :=
  h.read fun _ _ _ _ _ _ h => Flush_no h hk hr
theorem Fence_own (h : Own W w b n s T) {k t : Int} (hk : (Lit.int .i64 k).wf = true) (htw : (Lit.int .i64 t).wf = true) (ht : ¬ t < 1) (hr : s.keys k = 1) (hn : n + 1 ≤ 1000000) :
    Calls Try.prog 26 #[.pointer (some ⟨b, 0, none⟩), .int .i64 k, .int .i64 t] w fun e w' => e = .returned (.int .i64 0) ∧ Own W w' b (n + 1) (s.fence t) T ∧ Left W T w w' :=
  h.lift fun _ _ _ _ _ _ h _ => Fence_yes h hk htw ht hr hn
theorem Fence_fenced (h : Own W w b n s T) {k t : Int} (hk : (Lit.int .i64 k).wf = true) (ht : ¬ t < 1) (hr : s.keys k ≠ 1) :
    Calls Try.prog 26 #[.pointer (some ⟨b, 0, none⟩), .int .i64 k, .int .i64 t] w fun e w' => e = .returned (.int .i64 14) ∧ w = w' :=
  h.read fun _ _ _ _ _ _ h => Fence_no h hk ht hr
theorem Takes_own (h : Own W w b n s T) {k : Int} {rest : List Int} (hp : s.pend = k :: rest) (hn : n + 2 ≤ 1000000) {a : Option Addr} {len cap g : Nat} {zs : List Int} (hz : PickArg w a len cap g zs) (hg : 0 < len → g < W.heap.size ∨ T g) :
    Calls Try.prog 28 #[.pointer (some ⟨b, 0, none⟩), .slice a len cap] w fun e w' => e = .returned (.int .i64 k) ∧ Own W w' b (n + 2) (s.taken k rest zs) T ∧ Left W T w w' := by
  exact h.lift fun _ _ _ _ _ _ h hT => Takes_some h hp hn hz (fun h0 => hT g (hg h0))
theorem Takes_empty (h : Own W w b n s T) (hp : s.pend = []) (a : Option Addr) (len cap : Nat) :
    Calls Try.prog 28 #[.pointer (some ⟨b, 0, none⟩), .slice a len cap] w fun e w' => e = .returned (.int .i64 0) ∧ w = w' :=
  h.read fun _ _ _ _ _ _ h => Takes_none h hp a len cap
theorem Drop_own (h : Own W w b n s T) {k : Int} (hk : (Lit.int .i64 k).wf = true) {a : Option Addr} {len cap g : Nat} {zs : List Int} (hz : PickArg w a len cap g zs) (hg : 0 < len → g < W.heap.size ∨ T g) :
    Calls Try.prog 30 #[.pointer (some ⟨b, 0, none⟩), .int .i64 k, .slice a len cap] w fun e w' => e = .returned (.tuple #[]) ∧ Own W w' b n (s.settle k (decs zs)) T ∧ Left W T w w' :=
  h.lift fun _ _ _ _ _ _ h hT => Drop_any h hk hz (fun h0 => hT g (hg h0))
end
end Go.Proofs.Ytcahccjlompilaa
