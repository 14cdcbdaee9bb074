/- The document's reader and the view it builds: what its readings and its appends leave. -/
import Derived.Test.YtnbhjehaecifcaaRdR
import Derived.Test.YtnbhjehaecifcaaPut
namespace Go.Proofs.Ytnbhjehaecifcaa
open Go.RowKit

/-- The block is that of the old one, or a new one. -/
def Nb6 (w : World) (v v' : Value) : Prop := blk v' = blk v ∨ ∃ g, blk v' = some g ∧ w.heap.size ≤ g
theorem Nb6.not {w : World} {v v' : Value} {g : Nat} (h : Nb6 w v v') (hg : g < w.heap.size) (hn : blk v ≠ some g) : blk v' ≠ some g := by
  rcases h with e | ⟨g', e, hg'⟩
  · rw [e]; exact hn
  · rw [e]; intro e2; injection e2 with e2; omega
/-- In block c the reader, in block d the view with its three rows. -/
structure Dv (w0 w : World) (c d : Nat) (l : List UInt8) (b : Bool) (nv ev : Int) (mv dv iv : Value) (L : List Int) (M D : List Mb) : Prop where
  below : Below w0.heap.size w0 w
  hc : w0.heap.size ≤ c
  hd : w0.heap.size ≤ d
  hcd : c ≠ d
  rd : AR w c l b
  c0 : w.cell? ⟨d, 0, none⟩ = some (.int .i64 nv)
  c1 : w.cell? ⟨d, 1, none⟩ = some (.int .i64 ev)
  c2 : w.cell? ⟨d, 2, none⟩ = some mv
  c3 : w.cell? ⟨d, 3, none⟩ = some dv
  c4 : w.cell? ⟨d, 4, none⟩ = some iv
  fr : ∀ o, o < 5 → w.frozen? ⟨d, o, none⟩ = false
  rm : Row w 3 mv M.length (mcs M)
  rdd : Row w 3 dv D.length (mcs D)
  ri : Row w 1 iv L.length (ics L)
  bm : ∀ g, blk mv = some g → w0.heap.size ≤ g ∧ g ≠ c ∧ g ≠ d
  bd : ∀ g, blk dv = some g → w0.heap.size ≤ g ∧ g ≠ c ∧ g ≠ d
  bi : ∀ g, blk iv = some g → w0.heap.size ≤ g ∧ g ≠ c ∧ g ≠ d
  im : ∀ g, blk iv = some g → blk mv ≠ some g
  id : ∀ g, blk iv = some g → blk dv ≠ some g
  md : ∀ g, blk mv = some g → blk dv ≠ some g
section
variable {w0 w w' : World} {c d : Nat} {l : List UInt8} {b : Bool} {nv ev : Int} {mv dv iv : Value} {L : List Int} {M D : List Mb}
theorem AR.lt (h : AR w c l b) : c < w.heap.size := by obtain ⟨S, n, h, _⟩ := h; exact h.lt
theorem Dv.lt (h : Dv w0 w c d l b nv ev mv dv iv L M D) : d < w.heap.size := lt_of_cell h.c0
/-- What has touched none of it. -/
theorem Dv.later (h : Dv w0 w c d l b nv ev mv dv iv L M D) {S : Nat → Prop} (m : Mod S w w') (hs : ∀ g, S g → w0.heap.size ≤ g) {l' : List UInt8} {b' : Bool} (hr : AR w' c l' b') (sd : ¬ S d) (sm : ∀ g, blk mv = some g → ¬ S g) (sdd : ∀ g, blk dv = some g → ¬ S g) (si : ∀ g, blk iv = some g → ¬ S g) :
    Dv w0 w' c d l' b' nv ev mv dv iv L M D :=
  ⟨m.below h.below h.below.size hs, h.hc, h.hd, h.hcd, hr, (m.cell (p := ⟨d, 0, none⟩) h.lt sd).trans h.c0, (m.cell (p := ⟨d, 1, none⟩) h.lt sd).trans h.c1, (m.cell (p := ⟨d, 2, none⟩) h.lt sd).trans h.c2,
    (m.cell (p := ⟨d, 3, none⟩) h.lt sd).trans h.c3, (m.cell (p := ⟨d, 4, none⟩) h.lt sd).trans h.c4, fun o ho => (m.frozen (p := ⟨d, o, none⟩) h.lt sd).trans (h.fr o ho), h.rm.later m sm, h.rdd.later m sdd, h.ri.later m si, h.bm, h.bd, h.bi, h.im, h.id, h.md⟩
theorem Dv.more (h : Dv w0 w c d l b nv ev mv dv iv L M D) (k : Below w.heap.size w w') : Dv w0 w' c d l b nv ev mv dv iv L M D :=
  h.later (S := fun _ => False) (Mod.of_below k) (fun _ h => h.elim) (h.rd.later (T := fun _ => False) (Mod.of_below k) fun h => h) (fun h => h) (fun _ _ h => h) (fun _ _ h => h) (fun _ _ h => h)
theorem Dv.read (h : Dv w0 w c d l b nv ev mv dv iv L M D) (m : Mod (· = c) w w') {l' : List UInt8} {b' : Bool} (hr : AR w' c l' b') : Dv w0 w' c d l' b' nv ev mv dv iv L M D :=
  h.later m (fun _ e => e ▸ h.hc) hr (fun e => h.hcd e.symm) (fun g hg e => (h.bm g hg).2.1 e) (fun g hg e => (h.bd g hg).2.1 e) (fun g hg e => (h.bi g hg).2.1 e)
theorem Dv.bad (h : Dv w0 w c d l b nv ev mv dv iv L M D) : Dv w0 (w.setCell ⟨c, 2, none⟩ (.bool true)) c d [] true nv ev mv dv iv L M D :=
  h.read ((Mod.refl _ w).set1 _) h.rd.setBad
theorem Dv.epoch (h : Dv w0 w c d l b nv ev mv dv iv L M D) (z : Int) : Dv w0 (w.setCell ⟨d, 1, none⟩ (.int .i64 z)) c d l b nv z mv dv iv L M D := by
  have m : Mod (· = d) w (w.setCell ⟨d, 1, none⟩ (.int .i64 z)) := (Mod.refl _ w).set1 _
  exact ⟨m.below h.below h.below.size (fun _ e => e ▸ h.hd), h.hc, h.hd, h.hcd, h.rd.later m h.hcd, set_other (by simp) h.c0, set_same h.c1, set_other (by simp) h.c2, set_other (by simp) h.c3, set_other (by simp) h.c4,
    fun o ho => set_frozen (h.fr o ho), h.rm.later m fun g hg e => (h.bm g hg).2.2 e, h.rdd.later m fun g hg e => (h.bd g hg).2.2 e, h.ri.later m fun g hg e => (h.bi g hg).2.2 e, h.bm, h.bd, h.bi, h.im, h.id, h.md⟩
/-- Another row of incarnations, stored. -/
theorem Dv.putI (h : Dv w0 w c d l b nv ev mv dv iv L M D) (m : Mod (fun g => blk iv = some g) w w') {v : Value} {L2 : List Int} (r : Row w' 1 v L2.length (ics L2)) (n : Nb6 w iv v) : Dv w0 (w'.setCell ⟨d, 4, none⟩ v) c d l b nv ev mv dv v L2 M D := by
  have hsz := h.below.size
  have qd : ¬ blk iv = some d := fun e => (h.bi d e).2.2 rfl
  have qc : ¬ blk iv = some c := fun e => (h.bi c e).2.1 rfl
  have hl := h.lt
  have hcl := h.rd.lt
  have kd : blk v ≠ some d := n.not hl qd
  have nc : blk v ≠ some c := n.not hcl qc
  have m2 : Mod (· = d) w' (w'.setCell ⟨d, 4, none⟩ v) := (Mod.refl _ w').set1 _
  have ww : w.heap.size ≤ w'.heap.size := m.size
  have nb : ∀ g, blk v = some g → w0.heap.size ≤ g ∧ g ≠ c ∧ g ≠ d := fun g hg => by
    refine ⟨?_, fun e => nc (e ▸ hg), fun e => kd (e ▸ hg)⟩
    rcases n with e | ⟨g', e, hg'⟩
    · exact (h.bi g (e ▸ hg)).1
    · rw [e] at hg; injection hg with hg; omega
  have sm : ∀ g, blk mv = some g → ¬ blk iv = some g := fun g hg => fun e => h.im g e hg
  have nm : ∀ g, blk mv = some g → blk v ≠ some g := fun g hg => n.not (h.rm.blk_lt hg) (sm g hg)
  have rm := (h.rm.later m sm).later m2 (fun g hg e => (h.bm g hg).2.2 e)
  have sd : ∀ g, blk dv = some g → ¬ blk iv = some g := fun g hg => fun e => h.id g e hg
  have nd : ∀ g, blk dv = some g → blk v ≠ some g := fun g hg => n.not (h.rdd.blk_lt hg) (sd g hg)
  have rd := (h.rdd.later m sd).later m2 (fun g hg e => (h.bd g hg).2.2 e)
  have rv := r.later m2 (fun g hg e => kd (by rw [← e]; exact hg))
  exact ⟨m2.below (m.below h.below hsz (fun g hg => (h.bi g hg).1)) (Nat.le_trans hsz ww) (fun _ e => by rw [e]; exact h.hd), h.hc, h.hd, h.hcd, (h.rd.later m qc).later m2 h.hcd, set_other (by simp) ((m.cell (p := ⟨d, 0, none⟩) hl qd).trans h.c0), set_other (by simp) ((m.cell (p := ⟨d, 1, none⟩) hl qd).trans h.c1), set_other (by simp) ((m.cell (p := ⟨d, 2, none⟩) hl qd).trans h.c2), set_other (by simp) ((m.cell (p := ⟨d, 3, none⟩) hl qd).trans h.c3), set_same ((m.cell (p := ⟨d, 4, none⟩) hl qd).trans h.c4),
    fun o ho => set_frozen ((m.frozen (p := ⟨d, o, none⟩) hl qd).trans (h.fr o ho)), rm, rd, rv, h.bm, h.bd, nb, fun g hg e => nm g e hg, fun g hg e => nd g e hg, h.md⟩
/-- Another row of members, stored. -/
theorem Dv.putM (h : Dv w0 w c d l b nv ev mv dv iv L M D) (m : Mod (fun g => blk mv = some g) w w') {v : Value} {L2 : List Mb} (r : Row w' 3 v L2.length (mcs L2)) (n : Nb6 w mv v) : Dv w0 (w'.setCell ⟨d, 2, none⟩ v) c d l b nv ev v dv iv L L2 D := by
  have hsz := h.below.size
  have qd : ¬ blk mv = some d := fun e => (h.bm d e).2.2 rfl
  have qc : ¬ blk mv = some c := fun e => (h.bm c e).2.1 rfl
  have hl := h.lt
  have hcl := h.rd.lt
  have kd : blk v ≠ some d := n.not hl qd
  have nc : blk v ≠ some c := n.not hcl qc
  have m2 : Mod (· = d) w' (w'.setCell ⟨d, 2, none⟩ v) := (Mod.refl _ w').set1 _
  have ww : w.heap.size ≤ w'.heap.size := m.size
  have nb : ∀ g, blk v = some g → w0.heap.size ≤ g ∧ g ≠ c ∧ g ≠ d := fun g hg => by
    refine ⟨?_, fun e => nc (e ▸ hg), fun e => kd (e ▸ hg)⟩
    rcases n with e | ⟨g', e, hg'⟩
    · exact (h.bm g (e ▸ hg)).1
    · rw [e] at hg; injection hg with hg; omega
  have sd : ∀ g, blk dv = some g → ¬ blk mv = some g := fun g hg => fun e => h.md g e hg
  have nd : ∀ g, blk dv = some g → blk v ≠ some g := fun g hg => n.not (h.rdd.blk_lt hg) (sd g hg)
  have rd := (h.rdd.later m sd).later m2 (fun g hg e => (h.bd g hg).2.2 e)
  have si : ∀ g, blk iv = some g → ¬ blk mv = some g := fun g hg => fun e => h.im g hg e
  have ni : ∀ g, blk iv = some g → blk v ≠ some g := fun g hg => n.not (h.ri.blk_lt hg) (si g hg)
  have ri := (h.ri.later m si).later m2 (fun g hg e => (h.bi g hg).2.2 e)
  have rv := r.later m2 (fun g hg e => kd (by rw [← e]; exact hg))
  exact ⟨m2.below (m.below h.below hsz (fun g hg => (h.bm g hg).1)) (Nat.le_trans hsz ww) (fun _ e => by rw [e]; exact h.hd), h.hc, h.hd, h.hcd, (h.rd.later m qc).later m2 h.hcd, set_other (by simp) ((m.cell (p := ⟨d, 0, none⟩) hl qd).trans h.c0), set_other (by simp) ((m.cell (p := ⟨d, 1, none⟩) hl qd).trans h.c1), set_same ((m.cell (p := ⟨d, 2, none⟩) hl qd).trans h.c2), set_other (by simp) ((m.cell (p := ⟨d, 3, none⟩) hl qd).trans h.c3), set_other (by simp) ((m.cell (p := ⟨d, 4, none⟩) hl qd).trans h.c4),
    fun o ho => set_frozen ((m.frozen (p := ⟨d, o, none⟩) hl qd).trans (h.fr o ho)), rv, rd, ri, nb, h.bd, h.bi, fun g hg => ni g hg, h.id, fun g hg e => nd g e hg⟩
/-- Another row of the dead, stored. -/
theorem Dv.putD (h : Dv w0 w c d l b nv ev mv dv iv L M D) (m : Mod (fun g => blk dv = some g) w w') {v : Value} {L2 : List Mb} (r : Row w' 3 v L2.length (mcs L2)) (n : Nb6 w dv v) : Dv w0 (w'.setCell ⟨d, 3, none⟩ v) c d l b nv ev mv v iv L M L2 := by
  have hsz := h.below.size
  have qd : ¬ blk dv = some d := fun e => (h.bd d e).2.2 rfl
  have qc : ¬ blk dv = some c := fun e => (h.bd c e).2.1 rfl
  have hl := h.lt
  have hcl := h.rd.lt
  have kd : blk v ≠ some d := n.not hl qd
  have nc : blk v ≠ some c := n.not hcl qc
  have m2 : Mod (· = d) w' (w'.setCell ⟨d, 3, none⟩ v) := (Mod.refl _ w').set1 _
  have ww : w.heap.size ≤ w'.heap.size := m.size
  have nb : ∀ g, blk v = some g → w0.heap.size ≤ g ∧ g ≠ c ∧ g ≠ d := fun g hg => by
    refine ⟨?_, fun e => nc (e ▸ hg), fun e => kd (e ▸ hg)⟩
    rcases n with e | ⟨g', e, hg'⟩
    · exact (h.bd g (e ▸ hg)).1
    · rw [e] at hg; injection hg with hg; omega
  have sm : ∀ g, blk mv = some g → ¬ blk dv = some g := fun g hg => fun e => h.md g hg e
  have nm : ∀ g, blk mv = some g → blk v ≠ some g := fun g hg => n.not (h.rm.blk_lt hg) (sm g hg)
  have rm := (h.rm.later m sm).later m2 (fun g hg e => (h.bm g hg).2.2 e)
  have si : ∀ g, blk iv = some g → ¬ blk dv = some g := fun g hg => fun e => h.id g hg e
  have ni : ∀ g, blk iv = some g → blk v ≠ some g := fun g hg => n.not (h.ri.blk_lt hg) (si g hg)
  have ri := (h.ri.later m si).later m2 (fun g hg e => (h.bi g hg).2.2 e)
  have rv := r.later m2 (fun g hg e => kd (by rw [← e]; exact hg))
  exact ⟨m2.below (m.below h.below hsz (fun g hg => (h.bd g hg).1)) (Nat.le_trans hsz ww) (fun _ e => by rw [e]; exact h.hd), h.hc, h.hd, h.hcd, (h.rd.later m qc).later m2 h.hcd, set_other (by simp) ((m.cell (p := ⟨d, 0, none⟩) hl qd).trans h.c0), set_other (by simp) ((m.cell (p := ⟨d, 1, none⟩) hl qd).trans h.c1), set_other (by simp) ((m.cell (p := ⟨d, 2, none⟩) hl qd).trans h.c2), set_same ((m.cell (p := ⟨d, 3, none⟩) hl qd).trans h.c3), set_other (by simp) ((m.cell (p := ⟨d, 4, none⟩) hl qd).trans h.c4),
    fun o ho => set_frozen ((m.frozen (p := ⟨d, o, none⟩) hl qd).trans (h.fr o ho)), rm, rv, ri, h.bm, nb, h.bi, h.im, fun g hg => ni g hg, fun g hg => nm g hg⟩
theorem Dv.nodes (h : Dv w0 w c d l b nv ev mv dv iv L M D) (z : Int) : Dv w0 (w.setCell ⟨d, 0, none⟩ (.int .i64 z)) c d l b z ev mv dv iv L M D := by
  have m : Mod (· = d) w (w.setCell ⟨d, 0, none⟩ (.int .i64 z)) := (Mod.refl _ w).set1 _
  exact ⟨m.below h.below h.below.size (fun _ e => e ▸ h.hd), h.hc, h.hd, h.hcd, h.rd.later m h.hcd, set_same h.c0, set_other (by simp) h.c1, set_other (by simp) h.c2, set_other (by simp) h.c3, set_other (by simp) h.c4,
    fun o ho => set_frozen (h.fr o ho), h.rm.later m fun g hg e => (h.bm g hg).2.2 e, h.rdd.later m fun g hg e => (h.bd g hg).2.2 e, h.ri.later m fun g hg e => (h.bi g hg).2.2 e, h.bm, h.bd, h.bi, h.im, h.id, h.md⟩
/-- The view's block, made. -/
theorem Dv.new (hb : Below w0.heap.size w0 w) (hc : w0.heap.size ≤ c) (hr : AR w c l b) (z : Int) :
    Dv w0 (w.alloc (.cells #[.int .i64 z, .int .i64 0, .slice none 0 0, .slice none 0 0, .slice none 0 0] 25)) c w.heap.size l b z 0 (.slice none 0 0) (.slice none 0 0) (.slice none 0 0) [] [] [] := by
  have hl := hr.lt
  have k := balloc (Below.refl w.heap.size w) (.cells #[.int .i64 z, .int .i64 0, .slice none 0 0, .slice none 0 0, .slice none 0 0] 25)
  have bx := BoxV.new w ⟨z, 0, none, 0, 0, none, 0, 0, none, 0, 0⟩
  obtain ⟨e0, e1, e2, e3, e4⟩ := bx.cells
  refine ⟨hb.alloc hb.size _, hc, hb.size, by omega, hr.later (T := fun _ => False) (Mod.of_below k) (fun h => h), e0, e1, e2, e3, e4, fun o _ => bx.free o, row_nil _ _, row_nil _ _, row_nil _ _, ?_, ?_, ?_, ?_, ?_, ?_⟩
  all_goals intro g hg; simp [blk] at hg
/-- The view's block, filled. -/
theorem Dv.fill (h : Dv w0 w c d l b nv ev mv dv iv L M D) (hm : mv = .slice none 0 0) (hdv : dv = .slice none 0 0) (hi : iv = .slice none 0 0) (z z1 : Int) :
    Dv w0 (((((w.setCell ⟨d, 0, none⟩ (.int .i64 z)).setCell ⟨d, 1, none⟩ (.int .i64 z1)).setCell ⟨d, 2, none⟩ (.slice none 0 0)).setCell ⟨d, 3, none⟩ (.slice none 0 0)).setCell ⟨d, 4, none⟩ (.slice none 0 0)) c d l b z z1 mv dv iv L M D := by
  have k := (h.nodes z).epoch z1
  have m2 := k.putM (w' := _) (v := mv) (L2 := M) (Mod.refl _ _) k.rm (.inl rfl)
  have m3 := m2.putD (w' := _) (v := dv) (L2 := D) (Mod.refl _ _) m2.rdd (.inl rfl)
  have m4 := m3.putI (w' := _) (v := iv) (L2 := L) (Mod.refl _ _) m3.ri (.inl rfl)
  rw [hm, hdv, hi] at m4 ⊢
  exact m4
theorem XR.of_blk {S : List UInt8} (h : w.heap[c]? = some (.cells #[.string (str S), .int .i64 0, .bool false] 60 (0, 0))) : XR w c S 0 false := by
  refine ⟨?_, ?_, ?_, ?_, ?_⟩ <;> simp [World.cell?, World.frozen?, h]
/-- The reader's block, made. -/
theorem AR.new (w : World) (S : List UInt8) (hs : S.length ≤ 100000) : AR (w.alloc (.cells #[.string (str S), .int .i64 0, .bool false] 60)) w.heap.size S false :=
  ⟨S, 0, XR.of_blk (heap_alloc_new w _), by omega, by omega, by simp⟩
def Mci6 (w : World) (c : Nat) (v : Value) (u : World) : Prop := Mod (fun g => g = c ∨ blk v = some g) w u
instance (w : World) (c : Nat) (v : Value) : Nonempty (In (Mci6 w c v)) := ⟨⟨w, Mod.refl _ w⟩⟩
theorem Dv.cell4 (h : Dv w0 w c d l b nv ev mv dv iv L M D) (m : Mci6 w c iv w') : w'.cell? ⟨d, 4, none⟩ = some iv :=
  (m.cell (p := ⟨d, 4, none⟩) h.lt (fun e => e.elim (fun e => h.hcd e.symm) (fun e => (h.bi d e).2.2 rfl))).trans h.c4
theorem one_cell (w : World) (z : Int) : ∀ j u, [Value.int .i64 z][j]? = some u → (w.alloc (.cells #[.int .i64 z] 3)).cell? ((⟨w.heap.size, 0, none⟩ : Addr).add j) = some u := by
  intro j u hu
  have hj := (List.getElem?_eq_some_iff.1 hu).1
  obtain rfl : j = 0 := by simp at hj; omega
  have e : (w.alloc (.cells #[.int .i64 z] 3)).heap[w.heap.size]? = some (.cells #[.int .i64 z] 3 (0, 0)) := heap_alloc_new w _
  generalize w.alloc (.cells #[.int .i64 z] 3) = y at e
  rw [add_plain]
  simp at hu
  simp [World.cell?, e, hu]
theorem Dv.cbad (h : Dv w0 w c d l b nv ev mv dv iv L M D) : w.cell? ⟨c, 2, none⟩ = some (.bool b) := by
  obtain ⟨S, n, h, _⟩ := h.rd; exact h.bad
theorem Dv.fbad (h : Dv w0 w c d l b nv ev mv dv iv L M D) : w.frozen? ⟨c, 2, none⟩ = false := by
  obtain ⟨S, n, h, _⟩ := h.rd; exact h.free2
/-- A member's block is as it was, where another was written. -/
theorem BoxM.mod {S : Nat → Prop} {e : Nat} {m : Mb} (h : BoxM w e m) (k : Mod S w w') (hs : ¬ S e) : BoxM w' e m := ⟨(k.block e h.lt hs).trans h.blk⟩
/-- Another block of this call was written. -/
theorem Dv.other (h : Dv w0 w c d l b nv ev mv dv iv L M D) {q : Nat} (m : Mod (· = q) w w') (h0 : w0.heap.size ≤ q) (hc : q ≠ c) (hd : q ≠ d) (hm : blk mv ≠ some q) (hdv : blk dv ≠ some q) (hi : blk iv ≠ some q) : Dv w0 w' c d l b nv ev mv dv iv L M D :=
  h.later m (fun _ e => e ▸ h0) (h.rd.later m fun e => hc e.symm) (fun e => hd e.symm) (fun _ hg e => hm (e ▸ hg)) (fun _ hg e => hdv (e ▸ hg)) (fun _ hg e => hi (e ▸ hg))
/-- A member in a block, by its cells. -/
structure Mx (w : World) (q : Nat) (m : Mb) : Prop where
  c0 : w.cell? ⟨q, 0, none⟩ = some (.int .i64 m.1)
  c1 : w.cell? ⟨q, 1, none⟩ = some (.int .i64 m.2.1)
  c2 : w.cell? ⟨q, 2, none⟩ = some (.bool m.2.2)
  fr : ∀ o, o < 3 → w.frozen? ⟨q, o, none⟩ = false
theorem Mx.of {q : Nat} {m : Mb} (h : BoxM w q m) : Mx w q m := ⟨h.cells.1, h.cells.2.1, h.cells.2.2, fun o _ => h.free o⟩
theorem Mx.mod {S : Nat → Prop} {q : Nat} {m : Mb} (h : Mx w q m) (k : Mod S w w') (hs : ¬ S q) : Mx w' q m :=
  have hl : q < w.heap.size := lt_of_cell h.c0
  ⟨(k.cell (p := ⟨q, 0, none⟩) hl hs).trans h.c0, (k.cell (p := ⟨q, 1, none⟩) hl hs).trans h.c1, (k.cell (p := ⟨q, 2, none⟩) hl hs).trans h.c2, fun o ho => (k.frozen (p := ⟨q, o, none⟩) hl hs).trans (h.fr o ho)⟩
theorem Mx.set1 {q : Nat} {m : Mb} (h : Mx w q m) (z : Int) : Mx (w.setCell ⟨q, 1, none⟩ (.int .i64 z)) q (m.1, z, m.2.2) :=
  ⟨set_other (by simp) h.c0, set_same h.c1, set_other (by simp) h.c2, fun o ho => set_frozen (h.fr o ho)⟩
theorem Mx.set2 {q : Nat} {m : Mb} (h : Mx w q m) (r : Bool) : Mx (w.setCell ⟨q, 2, none⟩ (.bool r)) q (m.1, m.2.1, r) :=
  ⟨set_other (by simp) h.c0, set_other (by simp) h.c1, set_same h.c2, fun o ho => set_frozen (h.fr o ho)⟩
theorem three_cells (w : World) (m : Mb) : ∀ j u, (mb1 m)[j]? = some u → (w.alloc (.cells #[.int .i64 m.1, .int .i64 m.2.1, .bool m.2.2] 43)).cell? ((⟨w.heap.size, 0, none⟩ : Addr).add j) = some u := by
  intro j u hu
  obtain ⟨e0, e1, e2⟩ := (BoxM.new w m).cells
  rw [add_plain]
  match j, hu with
  | 0, hu => simp [mb1] at hu; rw [← hu]; exact e0
  | 1, hu => simp [mb1] at hu; rw [← hu]; exact e1
  | 2, hu => simp [mb1] at hu; rw [← hu]; exact e2
  | j + 3, hu => simp [mb1] at hu
theorem one_three (m : Mb) : ∀ u ∈ mb1 m, u.oneCell' = true := by
  intro u hu; simp [mb1] at hu; rcases hu with rfl | rfl | rfl <;> rfl
end
end Go.Proofs.Ytnbhjehaecifcaa
