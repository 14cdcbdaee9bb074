/- append of any number of elements, none too; parcels of a statement's own beside a network. -/
import Derived.Test.YtakhhpakajafkaaVd05
namespace Go.Proofs.Ytakhhpakajafkaa
open Go.RowKit

theorem append_zero {w : World} {size : Nat} {v : Value} {n : Nat} {xs : List Value} (h : Row w size v n xs) (t ty e : TypeId) (i : TypeInfo) (ht : Try.prog.underlying t = some (.slice e)) (hi : Try.prog.info? e = some i) (ad : Addr) (c : Nat) :
    (Builtin.append_ #[t, t] ty #[v, .slice (some ad) 0 c]).run Try.prog w = .ok v w := by
  rcases h.is with ⟨rfl, rfl⟩ | ⟨g, off, cap, rfl, _, hnc, _⟩
  · have hfc := run_firstCells_some (P := Try.prog) w i.size 0 ad 0 c [] (by simp) (by simp)
    simp [Builtin.append_, run_underlying ht, sizeOf, typeInfo, hi, Builtin.lenOf, hfc]
  · exact run_append_room_cells (P := Try.prog) w t ty e i ht hi g off n cap ad 0 c [] (by simp) (by simp) (by simp) (by omega) (by simp) (by simp)
/-- What append leaves, be there anything to append or not. -/
theorem append_any {w : World} {size : Nat} {v : Value} {n : Nat} {xs : List Value} (h : Row w size v n xs) (t ty e : TypeId) (i : TypeInfo) (z : Value) (bytes : Nat) (ht : Try.prog.underlying t = some (.slice e)) (hi : Try.prog.info? e = some i) (hz : i.zero = some z)
    (hsize : i.size = size) (hby : i.bytes = bytes) (hzs : z.cells.size = size) (hsz : 0 < size)
    (ad : Addr) (m c : Nat) (news : List Value) (hl : news.length = m * size) (hnews : ∀ j u, news[j]? = some u → w.cell? (ad.add j) = some u) (h1 : ∀ u ∈ news, u.oneCell' = true)
    (h63 : n + m ≤ maxLen) (hbytes : (n + m) * bytes ≤ 140737488355328) :
    ∃ v' w', (Builtin.append_ #[t, t] ty #[v, .slice (some ad) m c]).run Try.prog w = .ok v' w' ∧ Row w' size v' (n + m) (xs ++ news) ∧ Mod (fun g => blk v = some g) w w' ∧ (blk v' = blk v ∨ ∃ g, blk v' = some g ∧ w.heap.size ≤ g) := by
  by_cases hm : m = 0
  · subst hm
    have hn : news = [] := List.eq_nil_of_length_eq_zero (by omega)
    subst hn
    exact ⟨v, w, append_zero h t ty e i ht hi ad c, by rw [List.append_nil]; exact h, Mod.refl _ _, .inl rfl⟩
  · obtain ⟨v', w', a1, a2, _, a3, a4, _, _⟩ := h.append t ty e i z bytes ht hi hz hsize hby hzs hsz ad m c news hl hnews h1 (by omega) h63 hbytes
    exact ⟨v', w', a1, a2, a3, a4⟩
theorem wpList_append_any (w : World) {ops : Array Oper} {rest : List Oper} {o : Oper} {a : Act} {Q : Exit → Act → World → Prop} (hgd : o.guard = none) (s x : Operand) (t : TypeId)
    (ho : o.op = .call { callee := .builtin .append, args := #[s, x], argTypes := #[t, t] }) {size : Nat} {v : Value} {n : Nat} {xs : List Value} (h : Row w size v n xs) (e : TypeId) (i : TypeInfo) (z : Value) (bytes : Nat) (ht : Try.prog.underlying t = some (.slice e)) (hi : Try.prog.info? e = some i) (hz : i.zero = some z)
    (hsize : i.size = size) (hby : i.bytes = bytes) (hzs : z.cells.size = size) (hsz : 0 < size) (hs : a.eval s = v)
    (ad : Addr) (m c : Nat) (news : List Value) (hx : a.eval x = .slice (some ad) m c) (hl : news.length = m * size) (hnews : ∀ j u, news[j]? = some u → w.cell? (ad.add j) = some u) (h1 : ∀ u ∈ news, u.oneCell' = true)
    (h63 : n + m ≤ maxLen) (hbytes : (n + m) * bytes ≤ 140737488355328)
    (hK : ∀ v' w', Row w' size v' (n + m) (xs ++ news) → Mod (fun g => blk v = some g) w w' → (blk v' = blk v ∨ ∃ g, blk v' = some g ∧ w.heap.size ≤ g) → wpList Try.prog ops Q rest (a.put o.dst v') w') :
    wpList Try.prog ops Q (o :: rest) a w := by
  refine wpList_plain hgd fun K' hK' => ?_
  obtain ⟨v', w', hr, h2, h3, h4⟩ := append_any h t o.type e i z bytes ht hi hz hsize hby hzs hsz ad m c news hl hnews h1 h63 hbytes
  unfold Oper.wp execOp
  simp only [ho, resolve, invoke, builtin, Sem.run_bind, Sem.run_pure, Result.andThen_ok, List.map_toArray, List.map_cons, List.map_nil, hs, hx, hr]
  exact hK' _ _ (hK v' w' h2 h3 h4)
/-- A row of parcels of the statement's own, beside a network. -/
structure BesideP (W w : World) (b : Nat) (s : NS) (v : Value) (l : List Pcl) : Prop where
  own : Own W w b s (fun g => blk v = some g)
  row : Row w 3 v l.length (pc l)
  new : ∀ g, blk v = some g → W.heap.size ≤ g
theorem pc_one' (p : Pcl) : ∀ u ∈ pc1 p, u.oneCell' = true := fun u hu => by
  simp [pc1] at hu
  rcases hu with rfl | rfl | rfl <;> rfl
theorem pc_all' : ∀ (l : List Pcl), ∀ u ∈ pc l, u.oneCell' = true
  | [], u, hu => by simp [pc] at hu
  | p :: l, u, hu => by
    simp only [pc, List.mem_append] at hu
    rcases hu with hu | hu
    · exact pc_one' p u hu
    · exact pc_all' l u hu
theorem pc_at (w : World) (p : Pcl) (t : TypeId) : ∀ i u, (pc1 p)[i]? = some u → (w.alloc (.cells #[.int .i64 p.1, .int .i64 p.2.1, .string (str p.2.2)] t)).cell? ((⟨w.heap.size, 0, none⟩ : Addr).add i) = some u := fun i u hu => by
  match i, hu with
  | 0, hu => simp [pc1] at hu; subst hu; simp [Addr.add, go_sem]
  | 1, hu => simp [pc1] at hu; subst hu; simp [Addr.add, go_sem]
  | 2, hu => simp [pc1] at hu; subst hu; simp [Addr.add, go_sem]
  | i + 3, hu => simp [pc1] at hu
section
variable {W w w' : World} {b : Nat} {s s' : NS} {v : Value} {l : List Pcl}
theorem BesideP.start (h : Own W w b s (fun _ => False)) : BesideP W w b s (.slice none 0 0) [] := ⟨h.weak (fun g hg => by cases hg), row_nil _ _, fun g hg => by cases hg⟩
theorem BesideP.left (h : BesideP W w b s v l) (ho : Own W w' b s' (fun g => blk v = some g)) (m : Left W (fun g => blk v = some g) w w') : BesideP W w' b s' v l := ⟨ho, m.row h.row (fun _ h => h), h.new⟩
theorem BesideP.later (h : BesideP W w b s v l) (m : Below w.heap.size w w') : BesideP W w' b s v l := ⟨h.own.later m, h.row.later (Mod.of_below (S := fun _ => False) m) (fun _ _ => id), h.new⟩
theorem BesideP.slice (h : BesideP W w b s v l) : ∃ a cap, v = .slice a l.length cap := by
  rcases h.row.is with ⟨rfl, h0⟩ | ⟨g, off, cap, rfl, _⟩
  · exact ⟨none, 0, by rw [h0]⟩
  · exact ⟨_, _, rfl⟩
/-- One parcel more. -/
theorem BesideP.more (h : BesideP W w b s v l) {o : Obj} {v' : Value} {p : Pcl} {w2 : World} (hr : Row w2 3 v' (l.length + 1) (pc l ++ pc1 p)) (hm : Mod (fun g => blk v = some g) (w.alloc o) w2)
    (hb : blk v' = blk v ∨ ∃ g, blk v' = some g ∧ (w.alloc o).heap.size ≤ g) : BesideP W w2 b s v' (l ++ [p]) := by
  have hA : Below w.heap.size w (w.alloc o) := (Below.refl _ _).alloc (Nat.le_refl _) _
  have hW : W.heap.size ≤ w.heap.size := h.own.below.size
  refine ⟨(h.own.later hA).turn hm h.new (fun g hg => ?_) (fun g hg => hr.blk_lt hg), ?_, fun g hg => ?_⟩
  · rcases hb with h1 | ⟨g', h1, h2⟩
    · rw [h1] at hg; exact .inl hg
    · rw [hg] at h1; injection h1 with h1; subst h1; exact .inr h2
  · rw [List.length_append, pc_append, pc_one]
    exact hr
  · rcases hb with h1 | ⟨g', h1, h2⟩
    · rw [h1] at hg; exact h.new g hg
    · rw [hg] at h1; injection h1 with h1; subst h1; have := hA.size; omega
theorem BesideP.cells (h : BesideP W w b s v l) {i : Nat} (hi : i < l.length) : ∃ g off cap, v = .slice (some ⟨g, off, none⟩) l.length cap ∧ l.length ≤ cap ∧
    w.cell? ⟨g, off + i * 3, none⟩ = some (.int .i64 l[i].1) ∧ w.cell? ⟨g, off + i * 3 + 1, none⟩ = some (.int .i64 l[i].2.1) ∧ w.cell? ⟨g, off + i * 3 + 2, none⟩ = some (.string (str l[i].2.2)) := by
  rcases h.row.is with ⟨rfl, h0⟩ | ⟨g, off, cap, rfl, _, hc, _, hcell, _⟩
  · omega
  · obtain ⟨p0, p1, p2⟩ := pc_get l i l[i] (List.getElem?_eq_getElem hi)
    exact ⟨g, off, cap, rfl, hc, hcell _ _ p0, by rw [Nat.add_assoc]; exact hcell _ _ p1, by rw [Nat.add_assoc]; exact hcell _ _ p2⟩
end
/-! ### which messages wait, in whatever order -/
def pAtN (k : Nat) (t : List UInt8) : Pcl := (((k / 8 : Nat) : Int), ((k % 8 : Nat) : Int), t)
theorem allN_same (s : NS) (k : Nat) (l : List (List UInt8)) : ∀ n, n ≤ k → allN (s.put k l) n = allN s n
  | 0, _ => rfl
  | n + 1, h => by
    rw [allN, allN, allN_same s k l n (by omega)]
    unfold onK
    rw [NS.put_other _ _ (show n ≠ k by omega)]
theorem allN_snoc (s : NS) {k : Nat} (z : List UInt8) : ∀ n, k < n → (allN (s.put k (s k ++ [z])) n).Perm (allN s n ++ [pAtN k z])
  | 0, h => by omega
  | n + 1, h => by
    rw [allN, allN]
    by_cases e : k = n
    · subst e
      rw [allN_same s k _ k (Nat.le_refl _)]
      unfold onK
      rw [NS.put_same, List.map_append, List.append_assoc]
      exact List.Perm.refl _
    · have ih := allN_snoc s (k := k) z n (by omega)
      have e2 : onK (s.put k (s k ++ [z])) n = onK s n := by unfold onK; rw [NS.put_other _ _ (fun h => e h.symm)]
      rw [e2]
      refine (List.Perm.append_right _ ih).trans ?_
      rw [List.append_assoc, List.append_assoc]
      exact List.Perm.append_left _ List.perm_append_comm
theorem perm_erase {α : Type} : ∀ (l : List α) (j : Nat) (h : j < l.length), l.Perm (l[j] :: l.eraseIdx j)
  | [], _, h => by simp at h
  | a :: l, 0, _ => by simp
  | a :: l, j + 1, h => by
    have := perm_erase l j (by simpa using h)
    simp only [List.getElem_cons_succ, List.eraseIdx_cons_succ]
    exact (List.Perm.cons a this).trans (List.Perm.swap _ _ _)
theorem allN_erase (s : NS) {k j : Nat} (hj : j < (s k).length) : ∀ n, k < n → (allN s n).Perm (pAtN k (nth (s k) j) :: allN (s.put k ((s k).eraseIdx j)) n)
  | 0, h => by omega
  | n + 1, h => by
    rw [allN, allN]
    by_cases e : k = n
    · subst e
      rw [allN_same s k _ k (Nat.le_refl _)]
      have h1 : (onK s k).Perm (pAtN k (nth (s k) j) :: onK (s.put k ((s k).eraseIdx j)) k) := by
        unfold onK
        rw [NS.put_same, nth_get hj]
        exact (perm_erase (s k) j hj).map _
      exact (List.Perm.append_left _ h1).trans List.perm_middle
    · have ih := allN_erase s hj n (by omega)
      have e2 : onK (s.put k ((s k).eraseIdx j)) n = onK s n := by unfold onK; rw [NS.put_other _ _ (fun h => e h.symm)]
      rw [e2]
      exact List.Perm.append_right _ ih
/-- What was sent, and what waits, are the same but for the order. -/
structure SameAs (S : List Pcl) (s : NS) : Prop where
  perm : S.Perm (allN s 64)
theorem SameAs.sum {S : List Pcl} {s : NS} (h : SameAs S s) : sum s 64 = S.length := by rw [← all_sum, h.perm.length_eq]
theorem SameAs.none : SameAs [] NS.none := ⟨by rw [none_all]⟩
theorem SameAs.sent {S : List Pcl} {s : NS} (h : SameAs S s) {i j : Nat} (hi : i < 8) (hj : j < 8) (z : List UInt8) : SameAs (S ++ [((i : Int), (j : Int), z)]) (s.put (8 * i + j) (s (8 * i + j) ++ [z])) := by
  have h1 := allN_snoc s (k := 8 * i + j) z 64 (by omega)
  have e : pAtN (8 * i + j) z = ((i : Int), (j : Int), z) := by
    unfold pAtN
    rw [show (8 * i + j) / 8 = i by omega, show (8 * i + j) % 8 = j by omega]
  rw [e] at h1
  exact ⟨(List.Perm.append_right _ h.perm).trans h1.symm⟩
theorem perm_found {S A A' : List Pcl} {p : Pcl} (h : S.Perm A) (h2 : A.Perm (p :: A')) {at' : Nat} (ha : at' < S.length) (hp : S[at'] = p) : (S.eraseIdx at').Perm A' := by
  have h3 := perm_erase S at' ha
  rw [hp] at h3
  exact List.Perm.cons_inv ((h3.symm.trans h).trans h2)
theorem perm_in {S A A' : List Pcl} {p : Pcl} (h : S.Perm A) (h2 : A.Perm (p :: A')) : p ∈ S := by
  rw [h.mem_iff, h2.mem_iff]
  exact List.mem_cons_self
/-- The message sent last, doubled. -/
theorem dbl_last {s : NS} {i j : Nat} (hi : i < 8) (hj : j < 8) (hne : i ≠ j) (z : List UInt8) (hl : (s (8 * i + j)).length < 150) :
    (onL (s.put (8 * i + j) (s (8 * i + j) ++ [z])) i j).length = (s (8 * i + j)).length + 1 ∧ dbB (s.put (8 * i + j) (s (8 * i + j) ++ [z])) i j = true ∧
      dbS (s.put (8 * i + j) (s (8 * i + j) ++ [z])) i j ((s (8 * i + j)).length : Int) = (s.put (8 * i + j) (s (8 * i + j) ++ [z])).put (8 * i + j) ((s.put (8 * i + j) (s (8 * i + j) ++ [z])) (8 * i + j) ++ [z]) := by
  have e1 : onL (s.put (8 * i + j) (s (8 * i + j) ++ [z])) i j = s (8 * i + j) ++ [z] := by rw [onL_nat _ hi hj hne, NS.put_same]
  have hb : dbB (s.put (8 * i + j) (s (8 * i + j) ++ [z])) i j = true := by rw [dbB, e1]; simp; omega
  have e2 : wh ((s (8 * i + j)).length : Int) (s (8 * i + j) ++ [z]).length = (s (8 * i + j)).length := by
    rw [wh_nat, List.length_append, List.length_singleton, Nat.mod_eq_of_lt (Nat.lt_succ_self _)]
  have e3 : nth (s (8 * i + j) ++ [z]) (s (8 * i + j)).length = z := by simp [nth]
  refine ⟨by rw [e1]; simp, hb, ?_⟩
  rw [dbS, if_pos hb, e1, e2, e3, toL_nat _ hi hj hne, NS.put_same]
section
variable {W w : World} {b : Nat} {s : NS} {v : Value} {l : List Pcl}
/-- A block of the statement's own stays while its row grows. -/
theorem Own.grow {P : Nat} (h : Own W w b s (fun g => blk v = some g ∨ g = P)) (hv : ∀ g, blk v = some g → W.heap.size ≤ g) (hP : W.heap.size ≤ P) {o : Obj} {w2 : World} {v' : Value} (hm : Mod (fun g => blk v = some g) (w.alloc o) w2)
    (hb : blk v' = blk v ∨ ∃ g, blk v' = some g ∧ (w.alloc o).heap.size ≤ g) (hl : ∀ g, blk v' = some g → g < w2.heap.size) : Own W w2 b s (fun g => blk v' = some g ∨ g = P) := by
  have hA : Below w.heap.size w (w.alloc o) := (Below.refl _ _).alloc (Nat.le_refl _) _
  have h' := h.later hA
  have hPl : P < (w.alloc o).heap.size := by obtain ⟨_, _, _, _, h4⟩ := h'; exact h4 P (.inr rfl)
  refine h'.turn (hm.mono fun _ _ e => .inl e) (fun g hg => ?_) (fun g hg => ?_) (fun g hg => ?_)
  · rcases hg with hg | rfl
    · exact hv g hg
    · exact hP
  · rcases hg with hg | rfl
    · rcases hb with h1 | ⟨g', h1, h2⟩
      · rw [h1] at hg; exact .inl (.inl hg)
      · rw [hg] at h1; injection h1 with h1; subst h1; exact .inr h2
    · exact .inl (.inr rfl)
  · rcases hg with hg | rfl
    · exact hl g hg
    · exact Nat.lt_of_lt_of_le hPl hm.size
/-- A statement's row and a block of its own, beside a network. -/
structure BesideQ (W w : World) (b : Nat) (s : NS) (v : Value) (l : List Pcl) (P : Nat) (p : Pcl) : Prop where
  own : Own W w b s (fun g => blk v = some g ∨ g = P)
  row : Row w 3 v l.length (pc l)
  new : ∀ g, blk v = some g → W.heap.size ≤ g
  apart : ¬ blk v = some P
  newP : W.heap.size ≤ P
  box : Boxed3 w P 35 (.int .i64 p.1) (.int .i64 p.2.1) (.string (str p.2.2))
theorem BesideQ.left {s' : NS} {w' : World} {P : Nat} {p : Pcl} (h : BesideQ W w b s v l P p) (ho : Own W w' b s' (fun g => blk v = some g ∨ g = P)) (m : Left W (fun g => blk v = some g ∨ g = P) w w') : BesideQ W w' b s' v l P p :=
  ⟨ho, m.row h.row (fun _ h => .inl h), h.new, h.apart, h.newP, h.box.kept m (fun hn => hn.2 (.inr rfl))⟩
theorem BesideQ.later {w' : World} {P : Nat} {p : Pcl} (h : BesideQ W w b s v l P p) (m : Below w.heap.size w w') : BesideQ W w' b s v l P p :=
  ⟨h.own.later m, h.row.later (Mod.of_below (S := fun _ => False) m) (fun _ _ => id), h.new, h.apart, h.newP, h.box.kept (Mod.of_below (S := fun _ => False) m) id⟩
theorem BesideQ.plain {P : Nat} {p : Pcl} (h : BesideQ W w b s v l P p) : BesideP W w b s v l := ⟨h.own.weak (fun _ h => .inl h), h.row, h.new⟩
/-- The block's parcel put behind the row. -/
theorem BesideQ.more {P : Nat} {p : Pcl} (h : BesideQ W w b s v l P p) {o : Obj} {v' : Value} {w2 : World} (hr : Row w2 3 v' (l.length + 1) (pc l ++ pc1 p)) (hm : Mod (fun g => blk v = some g) (w.alloc o) w2)
    (hb : blk v' = blk v ∨ ∃ g, blk v' = some g ∧ (w.alloc o).heap.size ≤ g) : BesideQ W w2 b s v' (l ++ [p]) P p := by
  have hp := h.plain.more hr hm hb
  have hPl : P < w.heap.size := h.box.lt
  refine ⟨h.own.grow h.new h.newP hm hb (fun g hg => hr.blk_lt hg), hp.row, hp.new, fun e => ?_, h.newP, ?_⟩
  · rcases hb with h1 | ⟨g', h1, h2⟩
    · rw [h1] at e; exact h.apart e
    · rw [e] at h1; injection h1 with h1; subst h1; simp at h2; omega
  · exact (h.box.kept (Mod.of_below (S := fun _ => False) ((Below.refl _ w).alloc (Nat.le_refl _) o)) id).kept hm h.apart
end
/-- Any's message was sent; one of them is struck out. -/
theorem SameAs.took {S : List Pcl} {s : NS} (h : SameAs S s) {k j : Nat} (hk : k < 64) (hj : j < (s k).length) :
    (∃ a, ∃ ha : a < S.length, S[a] = pAtN k (nth (s k) j)) ∧ ∀ (a : Nat) (ha : a < S.length), S[a] = pAtN k (nth (s k) j) → SameAs (S.eraseIdx a) (s.put k ((s k).eraseIdx j)) := by
  have h2 := allN_erase s hj 64 hk
  refine ⟨?_, fun a ha e => ⟨perm_found h.perm h2 ha e⟩⟩
  obtain ⟨a, ha, e⟩ := List.getElem_of_mem (perm_in h.perm h2)
  exact ⟨a, ha, e⟩
theorem eql_parcel (p q : Pcl) (w : World) : (binOp .eql 35 (.agg #[.int .i64 p.1, .int .i64 p.2.1, .string (str p.2.2)]) (.agg #[.int .i64 q.1, .int .i64 q.2.1, .string (str q.2.2)])).run Try.prog w = .ok (.bool (p.1 == q.1 && (p.2.1 == q.2.1 && p.2.2 == q.2.2))) w := by
  have hu : Try.prog.underlying 35 = some (.struct (Try.prog.fieldsOf 35)) := by kernel_rfl
  have hp : Try.prog.stoodInHeld 35 = false := by kernel_rfl
  rw [run_eql_struct, run_equalIn_agg _ _ _ _ _ hu hp]
  by_cases h1 : p.1 = q.1 <;> by_cases h2 : p.2.1 = q.2.1 <;> by_cases h3 : p.2.2 = q.2.2 <;>
    simp [Program.fieldsOf, Try.underlying35, Try.underlying3, Try.underlying9, go_sem, part, h1, h2, h3]
theorem pcl_eq (p q : Pcl) : (p.1 == q.1 && (p.2.1 == q.2.1 && p.2.2 == q.2.2)) = true ↔ p = q := by
  obtain ⟨a, b, c⟩ := p
  obtain ⟨a', b', c'⟩ := q
  simp
theorem pc_split (S : List Pcl) (a : Nat) : pc S = pc (S.take a) ++ pc (S.drop a) := by rw [← pc_append, List.take_append_drop]
theorem pc_erase (S : List Pcl) (a : Nat) : pc (S.take a) ++ pc (S.drop (a + 1)) = pc (S.eraseIdx a) := by rw [← pc_append, List.eraseIdx_eq_take_drop_succ]
/-- A part of a row's cells. -/
theorem part_cells {w : World} {g off : Nat} {S : List Pcl} (hc : ∀ j u, (pc S)[j]? = some u → w.cell? ⟨g, off + j, none⟩ = some u) (a : Nat) :
    (∀ j u, (pc (S.take a))[j]? = some u → w.cell? ((⟨g, off, none⟩ : Addr).add j) = some u) ∧ (a ≤ S.length → ∀ j u, (pc (S.drop a))[j]? = some u → w.cell? ((⟨g, off + a * 3, none⟩ : Addr).add j) = some u) := by
  refine ⟨fun j u hu => ?_, fun ha j u hu => ?_⟩
  · rw [add_plain]
    refine hc j u ?_
    rw [pc_split S a, List.getElem?_append_left (List.getElem?_eq_some_iff.1 hu).1]
    exact hu
  · rw [add_plain, Nat.add_assoc]
    refine hc _ u ?_
    have hl : (pc (S.take a)).length = a * 3 := by rw [pc_length, List.length_take, Nat.min_eq_left ha]
    rw [pc_split S a, List.getElem?_append_right (by omega), hl, Nat.add_sub_cancel_left]
    exact hu
theorem BesideP.rowCells {W w : World} {b : Nat} {s : NS} {l : List Pcl} {g off cap : Nat} (h : BesideP W w b s (.slice (some ⟨g, off, none⟩) l.length cap) l) : l.length ≤ cap ∧ cap ≤ maxLen ∧ ∀ j u, (pc l)[j]? = some u → w.cell? ⟨g, off + j, none⟩ = some u := by
  rcases h.row.is with ⟨e, _⟩ | ⟨g', off', cap', e, _, h1, h2, hc, _⟩
  · cases e
  · injection e with e _ ec
    injection e with e
    injection e with e1 e2
    subst e1 e2 ec
    exact ⟨h1, h2, hc⟩
/-- Two appends: what stands ahead, and what stands behind. -/
theorem BesideP.cut {W w w7 w8 : World} {b : Nat} {s : NS} {v v7 v8 : Value} {l : List Pcl} {a n1 n2 : Nat} (h : BesideP W w b s v l) (r7 : Row w7 3 v7 n1 (pc (l.take a))) (m7 : Mod (fun g => blk (.slice none 0 0) = some g) w w7) (b7 : blk v7 = blk (.slice none 0 0) ∨ ∃ g, blk v7 = some g ∧ w.heap.size ≤ g)
    (r8 : Row w8 3 v8 n2 (pc (l.take a) ++ pc (l.drop (a + 1)))) (m8 : Mod (fun g => blk v7 = some g) w7 w8) (b8 : blk v8 = blk v7 ∨ ∃ g, blk v8 = some g ∧ w7.heap.size ≤ g) (hn2 : n2 = (l.eraseIdx a).length) : BesideP W w8 b s v8 (l.eraseIdx a) := by
  have hW : W.heap.size ≤ w.heap.size := h.own.below.size
  have n7 : ∀ g, blk v7 = some g → w.heap.size ≤ g := fun g hg => by
    rcases b7 with h1 | ⟨g', h1, h2⟩
    · rw [h1] at hg; cases hg
    · rw [hg] at h1; injection h1 with h1; subst h1; exact h2
  have o7 : Own W w7 b s (fun g => blk v7 = some g) := (h.own.weak (T' := fun _ => False) (fun _ => False.elim)).turn (m7.mono (fun _ _ e => by cases e)) (fun _ => False.elim) (fun g hg => .inr (n7 g hg)) (fun g hg => r7.blk_lt hg)
  have o8 : Own W w8 b s (fun g => blk v8 = some g) := o7.turn m8 (fun g hg => Nat.le_trans hW (n7 g hg)) (fun g hg => by
    rcases b8 with h1 | ⟨g', h1, h2⟩
    · rw [h1] at hg; exact .inl hg
    · rw [hg] at h1; injection h1 with h1; subst h1; exact .inr h2) (fun g hg => r8.blk_lt hg)
  subst hn2
  refine ⟨o8, by rw [← pc_erase]; exact r8, fun g hg => ?_⟩
  rcases b8 with h1 | ⟨g', h1, h2⟩
  · rw [h1] at hg; exact Nat.le_trans hW (n7 g hg)
  · rw [hg] at h1; injection h1 with h1; subst h1; have := m7.size; omega
end Go.Proofs.Ytakhhpakajafkaa
