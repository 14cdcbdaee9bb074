/- A range over a network's links, whatever its round does. -/
import Derived.Test.YtakhhpakajafkaaLinks
namespace Go.Proofs.Ytakhhpakajafkaa
open Go.RowKit Go.Shelf

/-- All is as it was, but for new blocks, and for blocks from B on that hold no cells. -/
def Aside (B : Nat) (W W' : World) : Prop := Mod (fun g => B ≤ g ∧ ∃ o : Obj, W.heap[g]? = some o ∧ o.isCells = false) W W'
theorem aside_alloc (B : Nat) (W : World) (o : Obj) : Aside B W (W.alloc o) := (Mod.refl _ W).alloc o
theorem aside_put {B : Nat} {W : World} {l : Nat} {o : Obj} (hB : B ≤ l) (h : W.heap[l]? = some o) (ho : o.isCells = false) (o' : Obj) : Aside B W (W.putObj l o') :=
  ⟨rfl, rfl, rfl, (grownBy_putObj' W l o').size, fun k hk hn => World.putObj_heap_other (fun e => hn (by subst e; exact ⟨hB, o, h, ho⟩))⟩
/-- A variable's block is a block of cells. -/
theorem boxed_aside {B : Nat} {W W' : World} (m : Aside B W W') {g : Nat} {t : TypeId} {v : Value} (h : Boxed W g t v) : Boxed W' g t v :=
  (m.block g h.lt (fun ⟨_, o, ho, hc⟩ => by rw [show W.heap[g]? = _ from h] at ho; cases ho; cases hc)).trans h
theorem below_aside {B n : Nat} {w W W' : World} (h : Below n w W) (m : Aside B W W') (hB : n ≤ B) (hs : n ≤ W.heap.size) : Below n w W' :=
  h.trans ⟨m.os, m.tape, m.output, m.size, fun i hi => m.block i (Nat.lt_of_lt_of_le hi hs) (fun ⟨h1, _⟩ => by omega)⟩
/-- How a round may be left: T is what the bookkeeping's blocks rest on. -/
def roundEnd (B : Nat) (I : Nat → World → Prop) (Ix : Code → Nat → World → Prop) (k : Nat) (W : World) : Exit → Act → World → Prop
  | .normal, _, W' => KeepsFrom B W W' ∧ I (k + 1) W'
  | .ret, _, W' => KeepsFrom B W W' ∧ Ix .ret (k + 1) W'
  | .exit id, _, W' => KeepsFrom B W W' ∧ Ix (.exit id) (k + 1) W'
  | .goto t, _, W' => KeepsFrom B W W' ∧ Ix (.goto t) (k + 1) W'
  | _, _, _ => False
theorem over_gen {F : Fence} {n : Nat} {g : Operand} {ps : Array Tmp} {assign body : Code} {Q : Exit → Act → World → Prop} {a : Act} {w : World}
    (hro : F.round = none) (h1 : 2 ≤ n) {recv : Value} (hg : a.eval g = .func (.func 41) #[recv] #[]) (hF : F.fn 41) (hps : ps.size = 2) (N : Nat) (enc : Nat → Array Value) (henc : ∀ k, (enc k).size = 2)
    (hseq : ∀ (l : Nat) (J Jx : Nat → World → Prop) (W : World), (∀ k W, k < N → J k W → YieldAt F (n - 1 - 1) Try.prog l (enc k) W fun e W' => (e = .returned (.bool true) ∧ J (k + 1) W') ∨ (e = .returned (.bool false) ∧ Jx (k + 1) W')) → J 0 W →
      CallsIn F (n - 1) Try.prog 41 #[recv, .func (.yield l) #[] #[]] W fun e W' => (∃ v, e = .returned v) ∧ (J N W' ∨ ∃ k, k ≤ N ∧ Jx k W'))
    (I : Nat → World → Prop) (Ix : Code → Nat → World → Prop) (hI : ∀ k W W', I k W → Aside w.heap.size W W' → I k W') (hIx : ∀ c k W W', Ix c k W → Aside w.heap.size W W' → Ix c k W') (h0 : I 0 w)
    (Ax : Nat → Act → World → Prop) (hAx : ∀ k a' W W', Ax k a' W → Aside w.heap.size W W' → Ax k a' W')
    (hassign : ∀ (l k : Nat) (W : World) (K : Act → World → Prop), k < N → I k W → (∀ a' W', KeepsFrom w.heap.size W W' → I k W' → Ax k a' W' → K a' W') →
      assign.wpIn (F.inRound l) (n - 1 - 1) Try.prog (Exit.then K (fun _ _ _ => False)) { tmps := (ps.zip (enc k)).foldl (fun t (p, v) => t.setIfInBounds p v) a.tmps, defers := [] } W)
    (hbody : ∀ (l k : Nat) (a' : Act) (W : World), k < N → I k W → Ax k a' W → body.wpIn (F.inRound l) (n - 1 - 1) Try.prog (roundEnd w.heap.size I Ix k W) a' W)
    (hdone : ∀ (D : Nat) (W : World), w.heap.size ≤ D → I N W → W.heap[D]? = some (.deferred (some [])) → Q .normal { a with defers := { target := .collected D, args := #[] } :: a.defers } W)
    (hstop : ∀ (D : Nat) (c : Code) (k : Nat) (W : World), w.heap.size ≤ D → k ≤ N → Ix c k W → W.heap[D]? = some (.deferred (some [])) → c.wpIn F n Try.prog Q { a with defers := { target := .collected D, args := #[] } :: a.defers } W) :
    (Code.rangeFunc g ps assign body).wpIn F n Try.prog Q a w := by
  refine wpIn_rangeFunc fun fn hfn => ?_
  rw [hro]
  let rec' : LoopState → Option Code → Loop := fun st pe => { state := st, pending := pe, fn, tmps := a.tmps, params := ps, assign, body, defers := w.heap.size }
  let D := w.heap.size
  let L := w.heap.size + 1
  have hent := run_enterLoop_outer (P := Try.prog) (w := w) fn a.tmps ps assign body
  obtain ⟨W1, hW1⟩ : ∃ W1, (w.alloc (.deferred (some []))).alloc (.loop (rec' .ready none)) = W1 := ⟨_, rfl⟩
  have hL1 : W1.heap[L]? = some (.loop (rec' .ready none)) := by
    have h := World.alloc_heap_new (w.alloc (.deferred (some []))) (.loop (rec' .ready none))
    rw [World.size_alloc, hW1] at h
    exact h
  have hD1 : W1.heap[D]? = some (.deferred (some [])) := by
    rw [← hW1]
    exact (Below.heap_alloc _ _ _ (by simp [D])).trans (World.alloc_heap_new w _)
  have hI1 : I 0 W1 := by
    rw [← hW1]
    exact hI _ _ _ (hI _ _ _ h0 (aside_alloc _ _ _)) (aside_alloc _ _ _)
  have bL : w.heap.size ≤ L := Nat.le_succ _
  have hDL : ∀ {W : World} {o : Obj}, W.heap[D]? = some (.deferred (some [])) → (W.putObj L o).heap[D]? = some (.deferred (some [])) := fun h => (World.putObj_heap_other (by simp only [D, L]; omega)).trans h
  refine ⟨L, [{ target := .collected D, args := #[] }], W1, { target := .fn (.func 41) #[], args := #[recv, .func (.yield L) #[] #[]] }, W1, 41,
    #[recv, .func (.yield L) #[] #[]], W1, by rw [← hW1]; exact hent, ?_, ?_, ?_, fun _ => by omega, ?_⟩
  · simp only [resolve, hg]
    simp [go_sem]
  · intro f' hf'
    simp [Target.leads] at hf'
    subst hf'
    exact hF
  · simp [invoke, go_sem]
  · refine (hseq L
      (fun k W => I k W ∧ W.heap[L]? = some (.loop (rec' .ready none)) ∧ W.heap[D]? = some (.deferred (some [])))
      (fun k W => ∃ c, Ix c k W ∧ W.heap[L]? = some (.loop (rec' .done (some c))) ∧ W.heap[D]? = some (.deferred (some [])))
      W1 (fun k W hk hJ => ?_) ⟨hI1, hL1, hD1⟩).mono ?_
    · obtain ⟨hi, hl, hd⟩ := hJ
      have hy := run_yield (P := Try.prog) (args := enc k) hl (by rw [show (rec' .ready none).params = ps from rfl, hps, henc])
      refine ⟨fn, _, assign, body, hy, roundIn_of_wpIn hfn (hassign L k W _ hk hi ?_)⟩
      intro a' Wa hka hia hax
      have hla := hka.same _ _ bL hl rfl
      have hda := hka.same _ _ (Nat.le_refl _) hd rfl
      have hlt := (Array.getElem?_eq_some_iff.1 hla).1
      refine ⟨_, run_beginRound hla rfl, ?_⟩
      have ha := aside_put bL hla rfl (.loop { rec' .ready none with state := .busy })
      have hl2 : (Wa.putObj L (.loop { rec' .ready none with state := .busy })).heap[L]? = some (.loop { rec' .ready none with state := .busy }) := World.putObj_heap_same hlt
      refine wpIn_mono (hbody L k a' _ hk (hI _ _ _ hia ha) (hAx _ _ _ _ hax ha)) ?_
      have fin : ∀ (jump : Option Code) (W3 : World), KeepsFrom w.heap.size (Wa.putObj L (.loop { rec' .ready none with state := .busy })) W3 →
          ∃ W4, (Instr.endRound L jump).run Try.prog W3 = .ok (.bool jump.isNone) W4 ∧ Aside w.heap.size W3 W4 ∧
            W4.heap[L]? = some (.loop (rec' (if jump.isNone then .ready else .done) jump)) ∧ W4.heap[D]? = some (.deferred (some [])) := fun jump W3 hk3 => by
        have hl3 := hk3.same _ _ bL hl2 rfl
        exact ⟨_, run_endRound jump hl3, aside_put bL hl3 rfl _, World.putObj_heap_same (Array.getElem?_eq_some_iff.1 hl3).1, hDL (hk3.same _ _ (Nat.le_refl _) (hDL hda) rfl)⟩
      rintro e a3 W3 hp
      cases e with
      | normal =>
        obtain ⟨W4, hr, h4, hl4, hd4⟩ := fin none W3 hp.1
        exact ⟨_, _, hr, .inl ⟨rfl, hI _ _ _ hp.2 h4, hl4, hd4⟩⟩
      | ret =>
        obtain ⟨W4, hr, h4, hl4, hd4⟩ := fin (some .ret) W3 hp.1
        exact ⟨_, _, hr, .inr ⟨rfl, .ret, hIx _ _ _ _ hp.2 h4, hl4, hd4⟩⟩
      | exit id =>
        obtain ⟨W4, hr, h4, hl4, hd4⟩ := fin (some (.exit id)) W3 hp.1
        exact ⟨_, _, hr, .inr ⟨rfl, _, hIx _ _ _ _ hp.2 h4, hl4, hd4⟩⟩
      | goto t =>
        obtain ⟨W4, hr, h4, hl4, hd4⟩ := fin (some (.goto t)) W3 hp.1
        exact ⟨_, _, hr, .inr ⟨rfl, _, hIx _ _ _ _ hp.2 h4, hl4, hd4⟩⟩
      | panic ch => exact hp.elim
      | outgrown => exact hp.elim
    · rintro e W2 ⟨⟨v, rfl⟩, ⟨hi, hl, hd⟩ | ⟨k, hk, c, hi, hl, hd⟩⟩
      · exact ⟨none, _, run_endLoop hl (by intro e; cases e), hdone _ _ (Nat.le_refl _) (hI _ _ _ hi (aside_put bL hl rfl _)) (hDL hd)⟩
      · exact ⟨some c, _, run_endLoop hl (by intro e; cases e), hstop _ c k _ (Nat.le_refl _) hk (hIx _ _ _ _ hi (aside_put bL hl rfl _)) (hDL hd)⟩
theorem over_links {F : Fence} {n : Nat} {g : Operand} {ps : Array Tmp} {assign body : Code} {Q : Exit → Act → World → Prop} {a : Act} {w : World}
    (hro : F.round = none) (h1 : 2 ≤ n) {b : Nat} (hg : a.eval g = .func (.func 41) #[.pointer (some ⟨b, 0, none⟩)] #[]) (hF : F.fn 41) (hps : ps.size = 2)
    (I : Nat → World → Prop) (Ix : Code → Nat → World → Prop) (hI : ∀ k W W', I k W → Aside w.heap.size W W' → I k W') (hIx : ∀ c k W W', Ix c k W → Aside w.heap.size W W' → Ix c k W') (h0 : I 0 w)
    (Ax : Nat → Act → World → Prop) (hAx : ∀ k a' W W', Ax k a' W → Aside w.heap.size W W' → Ax k a' W')
    (hassign : ∀ (l k : Nat) (W : World) (K : Act → World → Prop), k < 64 → I k W → (∀ a' W', KeepsFrom w.heap.size W W' → I k W' → Ax k a' W' → K a' W') →
      assign.wpIn (F.inRound l) (n - 1 - 1) Try.prog (Exit.then K (fun _ _ _ => False)) { tmps := (ps.zip (encL b k)).foldl (fun t (p, v) => t.setIfInBounds p v) a.tmps, defers := [] } W)
    (hbody : ∀ (l k : Nat) (a' : Act) (W : World), k < 64 → I k W → Ax k a' W → body.wpIn (F.inRound l) (n - 1 - 1) Try.prog (roundEnd w.heap.size I Ix k W) a' W)
    (hdone : ∀ (D : Nat) (W : World), w.heap.size ≤ D → I 64 W → W.heap[D]? = some (.deferred (some [])) → Q .normal { a with defers := { target := .collected D, args := #[] } :: a.defers } W)
    (hstop : ∀ (D : Nat) (c : Code) (k : Nat) (W : World), w.heap.size ≤ D → k ≤ 64 → Ix c k W → W.heap[D]? = some (.deferred (some [])) → c.wpIn F n Try.prog Q { a with defers := { target := .collected D, args := #[] } :: a.defers } W) :
    (Code.rangeFunc g ps assign body).wpIn F n Try.prog Q a w :=
  over_gen hro h1 hg hF hps 64 (encL b) (fun _ => rfl) (fun l J Jx W hY h0 => links_in F (n - 1) hF hro (by omega) l b J Jx hY W h0) I Ix hI hIx h0 Ax hAx hassign hbody hdone hstop
/-- A range over no network's links does nothing. -/
theorem over_nil {F : Fence} {n : Nat} {g : Operand} {ps : Array Tmp} {assign body : Code} {Q : Exit → Act → World → Prop} {a : Act} {w : World}
    (hro : F.round = none) (h1 : 2 ≤ n) (hg : a.eval g = .func (.func 41) #[.pointer none] #[]) (hF : F.fn 41) (hps : ps.size = 2)
    (I : World → Prop) (hI : ∀ W W', I W → Aside w.heap.size W W' → I W') (h0 : I w)
    (hdone : ∀ (D : Nat) (W : World), w.heap.size ≤ D → I W → W.heap[D]? = some (.deferred (some [])) → Q .normal { a with defers := { target := .collected D, args := #[] } :: a.defers } W) :
    (Code.rangeFunc g ps assign body).wpIn F n Try.prog Q a w :=
  over_gen hro h1 hg hF hps 0 (fun _ => #[undef, undef]) (fun _ => rfl) (fun l J _ W _ h0 => (links_nil F (n - 1) hF hro l J W h0).mono fun _ _ h => ⟨h.1, .inl h.2⟩) (fun _ => I) (fun _ _ _ => False) (fun _ => hI) (fun _ _ _ _ h _ => h.elim) h0 (fun _ _ _ => True) (fun _ _ _ _ h _ => h)
    (fun _ _ _ _ hk => absurd hk (Nat.not_lt_zero _)) (fun _ _ _ _ hk => absurd hk (Nat.not_lt_zero _)) hdone (fun _ _ _ _ _ _ h => h.elim)
end Go.Proofs.Ytakhhpakajafkaa
