/- Slices of a call's own that lie anywhere in a block, free to be turned: what append, Delete and clear make of them. -/
import Derived.Test.YtiomhdanmcnaeaaGreatDoorChecked
import Derived.Test.YtiomhdanmcnaeaaGreatDoorClose
import Derived.ArgAppend
import Derived.Deep.RegionLaw
namespace Go.Proofs.YtiomhdanmcnaeaaGreatDoor
open Go.RowKit

/-! ### slices that lie anywhere in a block -/
/-- The block that a slice lies in. -/
def blk : Value → Option Nat
  | .slice (some a) _ _ => some a.block
  | _ => none
/-- A slice of n elements of so many cells each, whose cells are these; what is behind them, as far as it has room, may be written. -/
structure Row (w : World) (size : Nat) (v : Value) (n : Nat) (xs : List Value) : Prop where
  length : xs.length = n * size
  is : (v = .slice none 0 0 ∧ n = 0) ∨ ∃ g off cap, v = .slice (some ⟨g, off, none⟩) n cap ∧ g < w.heap.size ∧ n ≤ cap ∧ cap ≤ maxLen ∧
    (∀ j u, xs[j]? = some u → w.cell? ⟨g, off + j, none⟩ = some u) ∧ (∀ j, j < (cap - n) * size → (w.cell? ⟨g, off + n * size + j, none⟩).isSome = true) ∧ ∀ j, j < cap * size → w.frozen? ⟨g, off + j, none⟩ = false
theorem row_nil (w : World) (size : Nat) : Row w size (.slice none 0 0) 0 [] := ⟨by simp, .inl ⟨rfl, rfl⟩⟩
theorem Row.later {S : Nat → Prop} {w w' : World} {size : Nat} {v : Value} {n : Nat} {xs : List Value} (h : Row w size v n xs) (m : Mod S w w') (hs : ∀ g, blk v = some g → ¬ S g) : Row w' size v n xs := by
  refine ⟨h.length, ?_⟩
  rcases h.is with h0 | ⟨g, off, cap, rfl, hg, h1, h2, h3, h4⟩
  · exact .inl h0
  · have hn := hs g rfl
    refine .inr ⟨g, off, cap, rfl, Nat.lt_of_lt_of_le hg m.size, h1, h2, fun j u hu => (m.cell (p := ⟨g, off + j, none⟩) hg hn).trans (h3 j u hu), fun j hj => ?_, fun j hj => (m.frozen (p := ⟨g, off + j, none⟩) hg hn).trans (h4.2 j hj)⟩
    rw [m.cell (p := ⟨g, off + n * size + j, none⟩) hg hn]
    exact h4.1 j hj
theorem Row.blk_lt {w : World} {size : Nat} {v : Value} {n : Nat} {xs : List Value} (h : Row w size v n xs) {g : Nat} (hg : blk v = some g) : g < w.heap.size := by
  rcases h.is with ⟨rfl, _⟩ | ⟨g', off, cap, rfl, hlt, _⟩
  · cases hg
  · simp only [blk, Option.some.injEq] at hg
    omega
theorem add_plain (b o j : Nat) : (⟨b, o, none⟩ : Addr).add j = ⟨b, o + j, none⟩ := Go.WideShapes.add_plain b o j
/-- What append of more elements leaves: a slice of all of them, in its own block, where only what was behind it has turned, or in a new one. -/
theorem Row.append {w : World} {size : Nat} {v : Value} {n : Nat} {xs : List Value} (h : Row w size v n xs) (t ty e : TypeId) (i : TypeInfo) (z : Value) (bytes : Nat) (ht : Tryz.prog.underlying t = some (.slice e)) (hi : Tryz.prog.info? e = some i) (hz : i.zero = some z)
    (hsize : i.size = size) (hby : i.bytes = bytes) (hzs : z.cells.size = size) (hsz : 0 < size)
    (ad : Addr) (m c : Nat) (news : List Value) (hl : news.length = m * size) (hnews : ∀ j u, news[j]? = some u → w.cell? (ad.add j) = some u) (h1 : ∀ u ∈ news, u.oneCell' = true) (hm : 0 < m)
    (h63 : n + m ≤ maxLen) (hbytes : (n + m) * bytes ≤ 140737488355328) :
    ∃ v' w', (Builtin.append_ #[t, t] ty #[v, .slice (some ad) m c]).run Tryz.prog w = .ok v' w' ∧ Row w' size v' (n + m) (xs ++ news) ∧ Row w' size v n xs ∧ Mod (fun g => blk v = some g) w w' ∧ (blk v' = blk v ∨ ∃ g, blk v' = some g ∧ w.heap.size ≤ g) ∧ (∃ x cap, v' = .slice (some x) (n + m) cap) ∧
      (∀ g, blk v = some g → ∀ o, (∀ a cap, v = .slice (some ⟨g, a, none⟩) n cap → o < a) → w'.cell? ⟨g, o, none⟩ = w.cell? ⟨g, o, none⟩) := by
  subst hsize
  subst hby
  have hlen : (xs ++ news).length = (n + m) * i.size := by rw [List.length_append, h.length, hl, Nat.add_mul]
  have hsmall : n + m ≤ 9223372036854775807 := by unfold maxLen at h63; omega
  have grown : ∀ old, old < n + m → Row (w.drew.alloc (.cells (xs.toArray ++ news.toArray ++ Builtin.zeroCells z.cells (grownCap w (n + m) old e - (n + m))) e)) i.size (.slice (some ⟨w.heap.size, 0, none⟩) (n + m) (grownCap w (n + m) old e)) (n + m) (xs ++ news) := by
    intro old ho
    have hge := grownCap_ge w (n + m) old e
    have hcm : grownCap w (n + m) old e ≤ maxLen := grownCap_le_maxLen w (n + m) old e h63
    have hz0 : (xs.toArray ++ news.toArray ++ Builtin.zeroCells z.cells (grownCap w (n + m) old e - (n + m))).size = grownCap w (n + m) old e * i.size := by
      simp only [Array.size_append, List.size_toArray, size_zeroCells, hzs, h.length, hl, ← Nat.add_mul]
      obtain ⟨G, hG⟩ : ∃ G, grownCap w (n + m) old e = G := ⟨_, rfl⟩
      rw [hG] at hge ⊢
      rw [Nat.add_sub_cancel' hge]
    refine ⟨hlen, .inr ⟨w.heap.size, 0, _, rfl, by simp, hge, hcm, fun j u hu => ?_, fun j hj => ?_, fun j hj => ?_⟩⟩
    · show (w.drew.alloc _).cell? ⟨w.drew.heap.size, 0 + j, none⟩ = _
      rw [Nat.zero_add, World.cell?_alloc_mark, Array.getElem?_append_left, ← hu]
      · simp
      · have := (List.getElem?_eq_some_iff.1 hu).1
        simpa using this
    · have hlt : 0 + (n + m) * i.size + j < (xs.toArray ++ news.toArray ++ Builtin.zeroCells z.cells (grownCap w (n + m) old e - (n + m))).size := by
        rw [hz0]
        have : (grownCap w (n + m) old e - (n + m)) * i.size = grownCap w (n + m) old e * i.size - (n + m) * i.size := Nat.sub_mul _ _ _
        omega
      show ((w.drew.alloc _).cell? ⟨w.drew.heap.size, _, none⟩).isSome = true
      rw [World.cell?_alloc_mark, Array.getElem?_eq_getElem hlt]
      rfl
    · show (w.drew.alloc _).frozen? ⟨w.drew.heap.size, _, none⟩ = false
      rw [World.frozen?_alloc_mark]
      simp
  have old_row : ∀ o, Row (w.drew.alloc o) i.size v n xs := fun o => h.later (((Mod.refl (fun _ => False) w).drew).alloc o) (fun _ _ => id)
  rcases h.is with ⟨rfl, rfl⟩ | ⟨g, off, cap, rfl, hg, hnc, hcm, hcells, hspare, hfree⟩
  · have hx : xs = [] := List.eq_nil_of_length_eq_zero (by have := h.length; omega)
    subst hx
    have hr := run_append_nil (P := Tryz.prog) w t ty e i z ht hi hz ad m c news hl hnews hm (by omega) (by have hb := hbytes; simp only [Nat.zero_add] at hb; omega)
    have hgr := grown 0 (by omega)
    simp only [Nat.zero_add, List.nil_append, Array.empty_append] at hgr ⊢
    exact ⟨_, _, hr, hgr, old_row _, ((Mod.refl _ w).drew).alloc _, .inr ⟨w.heap.size, rfl, Nat.le_refl _⟩, ⟨_, _, rfl⟩, fun g hg => by cases hg⟩
  · by_cases hroom : n + m ≤ cap
    · have hfit : news.length ≤ (cap - n) * i.size := by rw [hl]; exact Nat.mul_le_mul_right _ (by omega)
      have hfr : ∀ j, j < (cap - n) * i.size → w.frozen? ⟨g, off + n * i.size + j, none⟩ = false := fun j hj => by
        have e1 : (cap - n) * i.size = cap * i.size - n * i.size := Nat.sub_mul _ _ _
        have := hfree (n * i.size + j) (by omega)
        rwa [← Nat.add_assoc] at this
      have hr := run_append_room_cells (P := Tryz.prog) w t ty e i ht hi g off n cap ad m c news hl hnews h1 hroom (fun j hj => hspare j (by omega)) (fun j hj => hfr j (by omega))
      have hsz' : ∀ (vs : List Value) (o : Nat) (u : World), (u.setCells g o vs).heap.size = u.heap.size := by
        intro vs
        induction vs with
        | nil => intro o u; rfl
        | cons x r ih => intro o u; show ((u.setCell _ _).setCells g (o + 1) r).heap.size = _; rw [ih]; simp [World.setCell]
      have hmod : ∀ (vs : List Value) (o : Nat) (u : World), Mod (fun g' => blk (.slice (some ⟨g, off, none⟩) n cap) = some g') u (u.setCells g o vs) := by
        intro vs
        induction vs with
        | nil => intro o u; exact Mod.refl _ _
        | cons x r ih => intro o u; exact (Mod.setCell (S := fun g' => blk (.slice (some ⟨g, off, none⟩) n cap) = some g') (Mod.refl _ u) (p := ⟨g, o, none⟩) (.inl rfl) x).trans (ih (o + 1) _)
      have hin : ∀ (vs : List Value) (o : Nat) (u : World), (∀ j, j < vs.length → (u.cell? ⟨g, o + j, none⟩).isSome = true) → ∀ j x, vs[j]? = some x → (u.setCells g o vs).cell? ⟨g, o + j, none⟩ = some x := by
        intro vs
        induction vs with
        | nil => intro o u _ j x hx; simp at hx
        | cons y r ih =>
          intro o u hs j x hx
          show ((u.setCell ⟨g, o, none⟩ y).setCells g (o + 1) r).cell? _ = _
          cases j with
          | zero =>
            simp at hx
            subst hx
            rw [World.cell?_setCells_out g r (o + 1) _ ⟨g, o + 0, none⟩ (fun _ _ => .inl (by simp))]
            have h0 := hs 0 (by simp)
            obtain ⟨u0, hu0⟩ := Option.isSome_iff_exists.1 h0
            exact set_same hu0
          | succ j =>
            have := ih (o + 1) (u.setCell ⟨g, o, none⟩ y) (fun j hj => by
              rw [World.cell?_setCell_other _ _ _ _ (fun e => by injection e with _ e; omega)]
              have := hs (j + 1) (by simpa using hj)
              rwa [show o + (j + 1) = o + 1 + j by omega] at this) j x (by simpa using hx)
            rwa [show o + 1 + j = o + (j + 1) by omega] at this
      have hfz : ∀ (vs : List Value) (o : Nat) (u : World) (x : Addr), (u.setCells g o vs).frozen? x = u.frozen? x := by
        intro vs
        induction vs with
        | nil => intro o u x; rfl
        | cons y r ih => intro o u x; show ((u.setCell _ y).setCells g (o + 1) r).frozen? x = _; rw [ih]; exact World.frozen?_setCell _ _ _ _
      have hxl := h.length
      have hold : ∀ o, o < off + n * i.size → (w.setCells g (off + n * i.size) news).cell? ⟨g, o, none⟩ = w.cell? ⟨g, o, none⟩ := fun o ho =>
        World.cell?_setCells_out g news (off + n * i.size) w ⟨g, o, none⟩ (fun _ _ => .inl ho)
      have hcell1 : ∀ j u, xs[j]? = some u → (w.setCells g (off + n * i.size) news).cell? ⟨g, off + j, none⟩ = some u := fun j u hu => by
        have := (List.getElem?_eq_some_iff.1 hu).1
        rw [hold _ (by omega)]
        exact hcells j u hu
      have hins := hin news (off + n * i.size) w (fun j hj => hspare j (by omega))
      refine ⟨_, _, hr, ⟨hlen, .inr ⟨g, off, cap, rfl, by rw [hsz']; exact hg, hroom, hcm, fun j u hu => ?_, fun j hj => ?_, fun j hj => by rw [hfz]; exact hfree j hj⟩⟩, ⟨hxl, .inr ⟨g, off, cap, rfl, by rw [hsz']; exact hg, hnc, hcm, hcell1, fun j hj => ?_, fun j hj => by rw [hfz]; exact hfree j hj⟩⟩, hmod _ _ _, .inl rfl, ⟨_, _, rfl⟩, fun g' hg' o ho => ?_⟩
      · by_cases hj : j < xs.length
        · rw [List.getElem?_append_left hj] at hu
          exact hcell1 j u hu
        · rw [List.getElem?_append_right (by omega)] at hu
          have := hins (j - xs.length) u hu
          rwa [show off + n * i.size + (j - xs.length) = off + j by omega] at this
      · have e1 : (cap - n) * i.size = (cap - (n + m)) * i.size + m * i.size := by rw [← Nat.add_mul, show cap - (n + m) + m = cap - n by omega]
        have e2 : off + (n + m) * i.size + j = off + n * i.size + (m * i.size + j) := by rw [Nat.add_mul]; omega
        rw [e2]
        have := hspare (m * i.size + j) (by omega)
        rw [World.cell?_setCells_out g news (off + n * i.size) w _ (fun _ _ => .inr (by show off + n * i.size + news.length ≤ off + n * i.size + (m * i.size + j); omega))]
        exact this
      · by_cases hj2 : j < news.length
        · have := hins j news[j] (List.getElem?_eq_getElem hj2)
          rw [this]; rfl
        · rw [World.cell?_setCells_out g news (off + n * i.size) w _ (fun _ _ => .inr (by show off + n * i.size + news.length ≤ off + n * i.size + j; omega))]
          exact hspare j hj
      · simp only [blk, Option.some.injEq] at hg'
        subst hg'
        exact hold o (by have := ho off cap rfl; omega)
    · have hr := run_append_grow (P := Tryz.prog) w t ty e i z ht hi hz ⟨g, off, none⟩ n cap xs h.length (fun j u hu => by rw [add_plain]; exact hcells j u hu) ad m c news hl hnews (by omega) (by omega) (growslice_fits (by omega) hbytes)
      exact ⟨_, _, hr, grown cap (by omega), old_row _, ((Mod.refl _ w).drew).alloc _, .inr ⟨w.heap.size, rfl, Nat.le_refl _⟩, ⟨_, _, rfl⟩, fun g' hg' o _ => by
        simp only [blk, Option.some.injEq] at hg'
        subst hg'
        exact (((Mod.refl (fun _ => False) w).drew).alloc _).cell (p := ⟨g, o, none⟩) hg id⟩
theorem wpList_append_row (w : World) {ops : Array Oper} {rest : List Oper} {o : Oper} {a : Act} {Q : Exit → Act → World → Prop} (hgd : o.guard = none) (s x : Operand) (t : TypeId)
    (ho : o.op = .call { callee := .builtin .append, args := #[s, x], argTypes := #[t, t] }) {size : Nat} {v : Value} {n : Nat} {xs : List Value} (h : Row w size v n xs) (e : TypeId) (i : TypeInfo) (z : Value) (bytes : Nat) (ht : Tryz.prog.underlying t = some (.slice e)) (hi : Tryz.prog.info? e = some i) (hz : i.zero = some z)
    (hsize : i.size = size) (hby : i.bytes = bytes) (hzs : z.cells.size = size) (hsz : 0 < size) (hs : a.eval s = v)
    (ad : Addr) (m c : Nat) (news : List Value) (hx : a.eval x = .slice (some ad) m c) (hl : news.length = m * size) (hnews : ∀ j u, news[j]? = some u → w.cell? (ad.add j) = some u) (h1 : ∀ u ∈ news, u.oneCell' = true) (hm : 0 < m)
    (h63 : n + m ≤ maxLen) (hbytes : (n + m) * bytes ≤ 140737488355328)
    (hK : ∀ x cap w', Row w' size (.slice (some x) (n + m) cap) (n + m) (xs ++ news) → Mod (fun g => blk v = some g) w w' → (blk (.slice (some x) (n + m) cap) = blk v ∨ ∃ g, blk (.slice (some x) (n + m) cap) = some g ∧ w.heap.size ≤ g) → wpList Tryz.prog ops Q rest (a.put o.dst (.slice (some x) (n + m) cap)) w') :
    wpList Tryz.prog ops Q (o :: rest) a w := by
  refine wpList_plain hgd fun K' hK' => ?_
  obtain ⟨v', w', hr, h2, _, h3, h4, ⟨x, cap, rfl⟩, _⟩ := h.append t o.type e i z bytes ht hi hz hsize hby hzs hsz ad m c news hl hnews h1 hm h63 hbytes
  unfold Oper.wp execOp
  simp only [ho, resolve, invoke, builtin, Sem.run_bind, Sem.run_pure, Result.andThen_ok, List.map_toArray, List.map_cons, List.map_nil, hs, hx, hr]
  exact hK' _ _ (hK x cap w' h2 h3 h4)

/-- append as a step of a region that draws its order. -/
theorem step_append_row {w : World} {ops : Array Oper} {o : Oper} {a : Act} {K : Act → World → Prop} {Q : Exit → Act → World → Prop} {E : Prop} (hgd : o.guard = none) (s x : Operand) (t : TypeId)
    (ho : o.op = .call { callee := .builtin .append, args := #[s, x], argTypes := #[t, t] }) {size : Nat} {v : Value} {n : Nat} {xs : List Value} (h : Row w size v n xs) (e : TypeId) (i : TypeInfo) (z : Value) (bytes : Nat) (ht : Tryz.prog.underlying t = some (.slice e)) (hi : Tryz.prog.info? e = some i) (hz : i.zero = some z)
    (hsize : i.size = size) (hby : i.bytes = bytes) (hzs : z.cells.size = size) (hsz : 0 < size) (hs : a.eval s = v)
    (ad : Addr) (m c : Nat) (news : List Value) (hx : a.eval x = .slice (some ad) m c) (hl : news.length = m * size) (hnews : ∀ j u, news[j]? = some u → w.cell? (ad.add j) = some u) (h1 : ∀ u ∈ news, u.oneCell' = true) (hm : 0 < m)
    (h63 : n + m ≤ maxLen) (hbytes : (n + m) * bytes ≤ 140737488355328)
    (hK : ∀ x cap w', Row w' size (.slice (some x) (n + m) cap) (n + m) (xs ++ news) → Mod (fun g => blk v = some g) w w' → (blk (.slice (some x) (n + m) cap) = blk v ∨ ∃ g, blk (.slice (some x) (n + m) cap) = some g ∧ w.heap.size ≤ g) → K (a.put o.dst (.slice (some x) (n + m) cap)) w') :
    if Region.wanted o (yielded ops a.tmps) = true then Oper.wp Tryz.prog o a w K Q else E := by
  have hw : Region.wanted o (yielded ops a.tmps) = true := by simp [Region.wanted, hgd]
  rw [if_pos hw]
  obtain ⟨v', w', hr, h2, _, h3, h4, ⟨x, cap, rfl⟩, _⟩ := h.append t o.type e i z bytes ht hi hz hsize hby hzs hsz ad m c news hl hnews h1 hm h63 hbytes
  unfold Oper.wp execOp
  simp only [ho, resolve, invoke, builtin, Sem.run_bind, Sem.run_pure, Result.andThen_ok, List.map_toArray, List.map_cons, List.map_nil, hs, hx, hr]
  exact hK x cap w' h2 h3 h4
end Go.Proofs.YtiomhdanmcnaeaaGreatDoor
