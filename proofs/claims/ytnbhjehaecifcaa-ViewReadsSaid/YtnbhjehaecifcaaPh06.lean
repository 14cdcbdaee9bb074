/- Rows as the program reads them, be there too many or not; what Read keeps. -/
import Derived.Test.YtnbhjehaecifcaaPe06
namespace Go.Proofs.Ytnbhjehaecifcaa
open Go.RowKit

theorem rowI_all (w : World) (b R C D : Nat) (l : List UInt8) (h : PE w b R C D l) (n : Nat) :
    Calls Try.prog 33 #[.int .i64 (n : Int), .int .i64 8, .func (.func 28) #[] #[.pointer (some ⟨R, 0, none⟩)]] w fun e w' => ∃ A k, e = .returned (.slice A k k) ∧ RowI w' A k k (if n ≤ 8 then rowF i8 r8 n l else []) ∧ (∀ i, blk (.slice A k k) = some i → w.heap.size ≤ i) ∧ PE w' b R C D (if n ≤ 8 then restF r8 n l else l) ∧ Mod (· = b) w w' := by
  by_cases hn : n ≤ 8
  · rw [if_pos hn, if_pos hn]
    exact (rowI_any w b R C D l h n hn).mono fun e w' ⟨g, he, hr, hg, hp, hm⟩ => ⟨_, n, he, hr, fun i hi => by simp [blk] at hi; omega, hp, hm⟩
  · rw [if_neg hn, if_neg hn]
    exact (row_many w n (by omega) _).mono fun e w' ⟨he, hw⟩ => by subst hw; exact ⟨none, 0, he, row_nil _ _, fun i hi => (by cases hi), h, Mod.refl _ _⟩
theorem rowM_all (w : World) (b R C D : Nat) (l : List UInt8) (h : PE w b R C D l) (fid : FuncId) (q r : Value) (v : List UInt8 → Mb) (f : List UInt8 → List UInt8) (hc : ClosR fid q r b R C D v f) (n m : Nat) (hm : m ≤ 100) :
    Calls Try.prog 34 #[.int .i64 (n : Int), .int .i64 (m : Int), .func (.func fid) #[] #[q, r]] w fun e w' => ∃ A k, e = .returned (.slice A k k) ∧ RowM w' A k k (if n ≤ m then rowF v f n l else []) ∧ (∀ i, blk (.slice A k k) = some i → w.heap.size ≤ i) ∧ PE w' b R C D (if n ≤ m then restF f n l else l) ∧ Mod (· = b) w w' := by
  by_cases hn : n ≤ m
  · rw [if_pos hn, if_pos hn]
    exact (rowM_any w b R C D l h fid q r v f hc n m hn hm).mono fun e w' ⟨g, he, hr, hg, hp, hmm⟩ => ⟨_, n, he, hr, fun i hi => by simp [blk] at hi; omega, hp, hmm⟩
  · rw [if_neg hn, if_neg hn]
    exact (rowM_many w n m (by omega) _).mono fun e w' ⟨he, hw⟩ => by subst hw; exact ⟨none, 0, he, row_nil _ _, fun i hi => (by cases hi), h, Mod.refl _ _⟩
theorem rdead_clos (b R C D : Nat) : ClosR 30 (.pointer (some ⟨R, 0, none⟩)) (.pointer (some ⟨C, 0, none⟩)) b R C D dV dR := ⟨fun _ _ => rfl, fun u l h => rdead_any u b R C D l h⟩
theorem rmember_clos (b R C D : Nat) : ClosR 32 (.pointer (some ⟨D, 0, none⟩)) (.pointer (some ⟨R, 0, none⟩)) b R C D mV mR := ⟨fun _ _ => rfl, fun u l h => rmember_any u b R C D l h⟩
/-- A box that was made stays through a reading. -/
theorem box_read {W w : World} {b : Nat} (h : Mod (· = b) (W.alloc (.cells (vC noVx) 25)) w) (hb : b < W.heap.size) : BoxV w W.heap.size noVx := (BoxV.new W noVx).kept h (by omega)
/-- What Read keeps: its readers, the view that is read so far in block g, the answer's block p; all that is new lies behind B. -/
structure Rq (W w : World) (b R C D g p B : Nat) (l : List UInt8) (X : Vx) : Prop where
  pe : PE w b R C D l
  box : BoxV w g X
  res : BoxV w p noVx
  below : Below W.heap.size W w
  old : W.heap.size ≤ p
  pb : p < b
  bg : b < g
  rg : R < g ∧ C < g ∧ D < g
  gB : g < B
  le : B ≤ w.heap.size
section
variable {W w w' : World} {b R C D g p B : Nat} {l l' : List UInt8} {X X' : Vx}
theorem Rq.read (h : Rq W w b R C D g p B l X) (m : Mod (· = b) w w') (hp : PE w' b R C D l') : Rq W w' b R C D g p B l' X :=
  ⟨hp, h.box.kept m (by have := h.bg; omega), h.res.kept m (by have := h.pb; omega), bmod h.below m (by have := h.old; have := h.pb; omega), h.old, h.pb, h.bg, h.rg, h.gB, Nat.le_trans h.le m.size⟩
theorem Rq.to (h : Rq W w b R C D g p B l X) (m : Below w.heap.size w w') : Rq W w' b R C D g p B l X :=
  ⟨h.pe.below m, h.box.below m, h.res.below m, bnext h.below m, h.old, h.pb, h.bg, h.rg, h.gB, Nat.le_trans h.le m.size⟩
theorem Rq.put (h : Rq W w b R C D g p B l X) (o : Nat) (u : Value) (e : (vC X).setIfInBounds o u = vC X') : Rq W (w.setCell ⟨g, o, none⟩ u) b R C D g p B l X' := by
  have m : Mod (· = g) w (w.setCell ⟨g, o, none⟩ u) := (Mod.refl (· = g) w).set1 _
  have h1 := h.bg
  have h2 := h.rg
  have h3 := h.pb
  have h4 := h.old
  exact ⟨h.pe.other m (by omega) (by omega) (by omega) (by omega), h.box.put o u X' e, h.res.kept m (by omega), bmod h.below m (by omega), h4, h3, h1, h2, h.gB, by have := h.le; have := m.size; omega⟩
/-- A row that is newer than the view stays. -/
theorem Rq.rowM (h : Rq W w b R C D g p B l X) {A : Option Addr} {n : Nat} {L : List Mb} (hr : RowM w A n n L) (hi : ∀ i, blk (.slice A n n) = some i → B ≤ i) {S : Nat → Prop} (m : Mod S w w') (hs : ∀ i, S i → i = b ∨ i = g) : RowM w' A n n L :=
  hr.later m (fun i e hS => by have h1 := hi i e; have h2 := h.gB; have h3 := h.bg; rcases hs i hS with h | h <;> omega)
theorem Rq.rowI (h : Rq W w b R C D g p B l X) {A : Option Addr} {n : Nat} {L : List Int} (hr : RowI w A n n L) (hi : ∀ i, blk (.slice A n n) = some i → B ≤ i) {S : Nat → Prop} (m : Mod S w w') (hs : ∀ i, S i → i = b ∨ i = g) : RowI w' A n n L :=
  hr.later m (fun i e hS => by have h1 := hi i e; have h2 := h.gB; have h3 := h.bg; rcases hs i hS with h | h <;> omega)
end
theorem IsL.hold {S : Nat → Prop} {w w' : World} {A : Option Addr} {n c : Nat} {l : List Mb} (h : IsL w A n c l) (m : Mod S w w') (hs : ∀ g, blk (.slice A n c) = some g → ¬ S g) : IsL w' A n c l :=
  ⟨h.length, h.le, h.max, fun h0 => by
    obtain ⟨g, off, e, hg, hc⟩ := h.cells h0
    have hng : ¬ S g := hs g (by rw [e]; rfl)
    refine ⟨g, off, e, Nat.lt_of_lt_of_le hg m.size, fun i q hq => ?_⟩
    obtain ⟨c0, c1, c2⟩ := hc i q hq
    exact ⟨(m.cell (p := ⟨g, off + i * 3, none⟩) hg hng).trans c0, (m.cell (p := ⟨g, off + i * 3 + 1, none⟩) hg hng).trans c1, (m.cell (p := ⟨g, off + i * 3 + 2, none⟩) hg hng).trans c2⟩, h.nil⟩
theorem IsI.hold {S : Nat → Prop} {w w' : World} {A : Option Addr} {n c : Nat} {l : List Int} (h : IsI w A n c l) (m : Mod S w w') (hs : ∀ g, blk (.slice A n c) = some g → ¬ S g) : IsI w' A n c l :=
  ⟨h.length, h.le, h.max, fun h0 => by
    obtain ⟨g, off, e, hg, hc⟩ := h.cells h0
    have hng : ¬ S g := hs g (by rw [e]; rfl)
    exact ⟨g, off, e, Nat.lt_of_lt_of_le hg m.size, fun i q hq => (m.cell (p := ⟨g, off + i, none⟩) hg hng).trans (hc i q hq)⟩, h.nil⟩
/-- What Read says of s. -/
def RdSay (w : World) (s : List UInt8) (x : Vx) (E : Int) : Prop := (readB s = true → E = 0 ∧ IsV w x (parseV s)) ∧ (readB s = false → E = 10 ∧ x = noVx)
end Go.Proofs.Ytnbhjehaecifcaa
