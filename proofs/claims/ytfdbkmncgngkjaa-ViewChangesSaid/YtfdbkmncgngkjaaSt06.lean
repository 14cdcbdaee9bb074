/- What a change's statement keeps in its blocks: the program's view, the document's, what is to come, and the call. -/
import Derived.Test.YtfdbkmncgngkjaaLi06
import Derived.Test.YtfdbkmncgngkjaaSame06
namespace Go.Proofs.Ytfdbkmncgngkjaa
open Go.RowKit

/-- The statement's three boxes. -/
def S3 (b c d : Nat) : Nat → Prop := fun h => h = b ∨ h = c ∨ h = d
structure St (w u : World) (b c d g : Nat) (o : OpV) (p q n : Vx) (U V X : Vw) : Prop where
  below : Below w.heap.size w u
  hp : BoxV u b p
  hq : BoxV u c q
  hn : BoxV u d n
  ho : BoxO u g o
  lp : Li u (S3 b c d) p U
  lq : Li u (S3 b c d) q V
  ln : Li u (S3 b c d) n X
  low : w.heap.size ≤ b
  bc : b < c
  cd : c < d
  gb : g ≠ b
  gc : g ≠ c
  gd : g ≠ d
section
variable {w u u' : World} {b c d g : Nat} {o : OpV} {p q n x : Vx} {U V X Y : Vw}
theorem St.to (h : St w u b c d g o p q n U V X) (m : Below u.heap.size u u') : St w u' b c d g o p q n U V X :=
  ⟨bnext h.below m, h.hp.below m, h.hq.below m, h.hn.below m, h.ho.below m, h.lp.below m, h.lq.below m, h.ln.below m, h.low, h.bc, h.cd, h.gb, h.gc, h.gd⟩
theorem St.in (h : St w u b c d g o p q n U V X) : ∀ i, S3 b c d i → i < u.heap.size := fun i hi => by
  have h1 := h.hp.lt
  have h2 := h.hq.lt
  have h3 := h.hn.lt
  rcases hi with rfl | rfl | rfl <;> omega
theorem St.next (h : St w u b c d g o p q n U V X) (l : Li u (S3 b c d) x Y) : St w (setV u d x) b c d g o p q x U V Y := by
  have m := setV_mod u d x
  have h1 := h.bc
  have h2 := h.cd
  have hs : ∀ i, i = d → S3 b c d i := fun i e => .inr (.inr e)
  exact ⟨bmod h.below m (by have := h.low; omega), h.hp.kept m (by omega), h.hq.kept m (by omega), setV_box h.hn x, ⟨(m.block g h.ho.lt h.gd).trans h.ho.blk⟩, h.lp.mod m hs, h.lq.mod m hs, l.mod m hs, h.low, h1, h2, h.gb, h.gc, h.gd⟩
theorem St.turn (h : St w u b c d g o p q n U V X) (l : Li u (S3 b c d) x Y) : St w (setV u c x) b c d g o p x n U Y X := by
  have m := setV_mod u c x
  have h1 := h.bc
  have h2 := h.cd
  have hs : ∀ i, i = c → S3 b c d i := fun i e => .inr (.inl e)
  exact ⟨bmod h.below m (by have := h.low; omega), h.hp.kept m (by omega), setV_box h.hq x, h.hn.kept m (by omega), ⟨(m.block g h.ho.lt h.gc).trans h.ho.blk⟩, h.lp.mod m hs, l.mod m hs, h.ln.mod m hs, h.low, h1, h2, h.gb, h.gc, h.gd⟩
theorem St.go (h : St w u b c d g o p q n U V X) : St w (setV u b n) b c d g o n q n X V X := by
  have m := setV_mod u b n
  have h1 := h.bc
  have h2 := h.cd
  have hs : ∀ i, i = b → S3 b c d i := fun i e => .inl e
  exact ⟨bmod h.below m h.low, setV_box h.hp n, h.hq.kept m (by omega), h.hn.kept m (by omega), ⟨(m.block g h.ho.lt h.gb).trans h.ho.blk⟩, h.ln.mod m hs, h.lq.mod m hs, h.ln.mod m hs, h.low, h1, h2, h.gb, h.gc, h.gd⟩
/-- What the program told. -/
theorem St.told (h : St w u b c d g o p q n U V X) (t : Told u' u.heap.size x Y) : Li u' (S3 b c d) x Y := Li.told t h.in
/-- What the document told. -/
theorem St.far (h : St w u b c d g o p q n U V X) (f : Far u.heap.size q x) (t : IsV u' x Y) : Li u' (S3 b c d) x Y := Li.far h.lq f t h.in
end
theorem sameL_refl (l : List Mb) : sameL l l = true := by simp [sameL]
theorem sameB_refl (V : Vw) : sameB V V = true := by simp [sameB, sameL_refl]
end Go.Proofs.Ytfdbkmncgngkjaa
