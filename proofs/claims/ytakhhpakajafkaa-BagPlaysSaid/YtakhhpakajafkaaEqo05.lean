/- The two networks hold the same behind each call. -/
import Derived.Test.YtakhhpakajafkaaEqn05
namespace Go.Proofs.Ytakhhpakajafkaa
open Go.RowKit

section
variable {s : NS} {L : List Pcl} {w w' : World} {B c : Nat} {v : Value} {e : Ending}
theorem eqn_take (h : EqN s L) {i j x : Int} (hT : TakeR w B c v L i j x e w') : ∃ L', RDid w B c v L' (.tuple #[.string (str (tkT s i j x)), .bool (tkB s i j)]) e w' ∧ EqN (tkS s i j x) L' := by
  have hc := h.cnt i j
  rcases hT with ⟨h0, hd⟩ | ⟨p, q, h0, hsp, hq, hd⟩
  · have hn : onL s i j = [] := List.eq_nil_of_length_eq_zero (by omega)
    refine ⟨L, ?_, ?_⟩
    · rw [tkT_nil hn, tkB, hn]
      exact hd
    · rw [tkS_nil hn]; exact h
  · have hl : linkB i j = true := by
      cases hl : linkB i j with
      | true => rfl
      | false => rw [cntR, h.far hl] at h0; simp at h0
    obtain ⟨a, b, rfl, rfl, ha, hb, hne⟩ := link_nat hl
    obtain ⟨m, hmm⟩ : ∃ m, wh x (onL s (a : Int) (b : Int)).length = m := ⟨_, rfl⟩
    rw [hc, hmm] at hsp
    obtain ⟨hm, hp, e1⟩ := h.spot ha hb hsp
    have e2 : onL s (a : Int) (b : Int) = s (8 * a + b) := onL_nat s ha hb hne
    have eq : q = ((a : Int), (b : Int), (s (8 * a + b))[m]) := by
      rw [List.getElem?_eq_getElem hp, Option.some.injEq] at hq
      rw [← hq, e1]
    refine ⟨L.eraseIdx p, ?_, ?_⟩
    · have e3 : tkT s (a : Int) (b : Int) x = q.2.2 := by
        rw [eq, tkT, hmm, e2, nth_get hm]
      have e4 : tkB s (a : Int) (b : Int) = true := by rw [tkB, ← hc]; simpa using h0
      rw [e3, e4]
      exact hd
    · have e5 : tkS s (a : Int) (b : Int) x = s.put (8 * a + b) ((s (8 * a + b)).eraseIdx m) := by
        rw [tkS, toL_nat s ha hb hne, hmm, e2]
      rw [e5]
      exact eqn_erase h ha hb hsp
theorem eqn_double (h : EqN s L) {i j x : Int} (hT : DoubleR w B c v L i j x e w') : ∃ L', RDid w B c v L' (.bool (dbB s i j)) e w' ∧ EqN (dbS s i j x) L' := by
  have hc := h.cnt i j
  rcases hT with ⟨h0, hd⟩ | ⟨p, q, h0, h1, hsp, hq, hd⟩
  · have e1 : dbB s i j = false := by
      rw [dbB, ← hc]
      rcases h0 with h0 | h0
      · simp [h0]
      · simp; omega
    refine ⟨L, by rw [e1]; exact hd, ?_⟩
    rw [dbS, e1]
    exact h
  · have hl : linkB i j = true := by
      cases hl : linkB i j with
      | true => rfl
      | false => rw [cntR, h.far hl] at h0; simp at h0
    obtain ⟨a, b, rfl, rfl, ha, hb, hne⟩ := link_nat hl
    have e1 : dbB s (a : Int) (b : Int) = true := by rw [dbB, ← hc]; simp; omega
    obtain ⟨m, hmm⟩ : ∃ m, wh x (onL s (a : Int) (b : Int)).length = m := ⟨_, rfl⟩
    rw [hc] at hsp h1
    rw [hmm] at hsp
    obtain ⟨hm, hp, e2⟩ := h.spot ha hb hsp
    have e3 : onL s (a : Int) (b : Int) = s (8 * a + b) := onL_nat s ha hb hne
    have eq : q = ((a : Int), (b : Int), (s (8 * a + b))[m]) := by
      rw [List.getElem?_eq_getElem hp, Option.some.injEq] at hq
      rw [← hq, e2]
    refine ⟨L ++ [q], by rw [e1]; exact hd, ?_⟩
    rw [e3] at h1
    rw [dbS, if_pos e1, toL_nat s ha hb hne, eq, hmm, e3, nth_get hm]
    exact eqn_send h ha hb hne h1 _
theorem eqn_sendB (h : EqN s L) (i j : Int) (l : List UInt8) : sendOk L i j l = sendB s i j l := by
  rw [sendOk, sendB, h.cnt i j]
  cases linkB i j <;> cases decide (l.length ≤ 2000) <;> rfl
theorem eqn_sendS (h : EqN s L) (i j : Int) (l : List UInt8) : EqN (sendS s i j l) (if sendOk L i j l then L ++ [(i, j, l)] else L) := by
  rw [eqn_sendB h, sendS]
  cases hb : sendB s i j l with
  | false => simpa using h
  | true =>
    simp only [sendB, Bool.and_eq_true, decide_eq_true_eq] at hb
    obtain ⟨⟨_, hl⟩, hc⟩ := hb
    obtain ⟨a, b, rfl, rfl, ha, hb', hne⟩ := link_nat hl
    rw [onL_nat s ha hb' hne] at hc
    rw [if_pos rfl, if_pos rfl, toL_nat s ha hb' hne, onL_nat s ha hb' hne]
    exact eqn_send h ha hb' hne hc l
theorem allN_split (s : NS) {k : Nat} : ∀ n, k < n → ∃ r, allN s n = allN s k ++ (onK s k ++ r)
  | 0, h => by omega
  | n + 1, h => by
    by_cases e : k = n
    · subst e
      exact ⟨[], by rw [allN, List.append_nil]⟩
    · obtain ⟨r, hr⟩ := allN_split s (k := k) n (by omega)
      exact ⟨r ++ onK s n, by rw [allN, hr]; simp⟩
theorem eqn_any_none (h : EqN s L) : allR L 64 = [] ↔ sum s 64 = 0 := by
  rw [h.all 64 (Nat.le_refl _), ← all_sum]
  exact ⟨fun e => by rw [e]; rfl, fun e => List.eq_nil_of_length_eq_zero e⟩
theorem eqn_any (h : EqN s L) {x : Int} {k j : Nat} (hk : k < 64) (hj : j < (s k).length) (hp : wh x (sum s 64) = sum s k + j) {q : Pcl} {L' : List Pcl} (hq : (allR L 64)[wh x (allR L 64).length]? = some q)
    (hT : TookR L q (cntR ((allR L 64).take (wh x (allR L 64).length)) q.1 q.2.1) L') : q = pAtN k (nth (s k) j) ∧ EqN (s.put k ((s k).eraseIdx j)) L' := by
  have hA := h.all 64 (Nat.le_refl _)
  have hlen : (allR L 64).length = sum s 64 := by rw [hA, all_sum]
  rw [hlen, hp, hA] at hq hT
  obtain ⟨r, hr⟩ := allN_split s (k := k) 64 hk
  have hl1 : (allN s k).length = sum s k := all_sum s k
  have hjk : j < (onK s k).length := by rw [onK_length]; exact hj
  have e1 : q = pAtN k (nth (s k) j) := by
    rw [hr, List.getElem?_append_right (by omega), hl1, Nat.add_sub_cancel_left, List.getElem?_append_left hjk] at hq
    rw [onK, List.getElem?_map, List.getElem?_eq_getElem hj] at hq
    simp only [Option.map_some, Option.some.injEq] at hq
    rw [← hq, nth_get hj, pAtN]
  refine ⟨e1, ?_⟩
  have hi8 : k / 8 < 8 := by omega
  have hj8 : k % 8 < 8 := by omega
  have hk8 : 8 * (k / 8) + k % 8 = k := by omega
  have hne : k / 8 ≠ k % 8 := fun e => by
    have h1 := h.diag (k / 8) hi8
    rw [show 9 * (k / 8) = k by omega] at h1
    rw [h1] at hj
    simp at hj
  have q1 : q.1 = ((k / 8 : Nat) : Int) := by rw [e1]; rfl
  have q2 : q.2.1 = ((k % 8 : Nat) : Int) := by rw [e1]; rfl
  have hcnt : cntR ((allN s 64).take (sum s k + j)) q.1 q.2.1 = j := by
    rw [hr, ← hl1, List.take_length_add_append, List.take_append_of_le_length (by omega), cntR, List.filter_append, List.length_append]
    have z1 : (allN s k).filter (onB q.1 q.2.1) = [] := by
      rw [List.filter_eq_nil_iff]
      intro p hp hon
      obtain ⟨k', hk', t, _, rfl⟩ := mem_allN k hp
      rw [q1, q2] at hon
      simp only [onB, pAtN, Bool.and_eq_true, beq_iff_eq] at hon
      omega
    have z2 : ((onK s k).take j).filter (onB q.1 q.2.1) = (onK s k).take j := by
      rw [List.filter_eq_self]
      intro p hp
      have hp2 := List.mem_of_mem_take hp
      rw [onK] at hp2
      obtain ⟨t, _, rfl⟩ := List.mem_map.1 hp2
      rw [q1, q2]
      simp [onB]
    rw [z1, z2, List.length_take, onK_length]
    simp; omega
  rw [hcnt] at hT
  have hon : onL s q.1 q.2.1 = s k := by rw [q1, q2, onL_nat s hi8 hj8 hne, hk8]
  have hc := h.cnt q.1 q.2.1
  rw [hon] at hc
  rcases hT with ⟨h0, _⟩ | ⟨p, h0, hsp, rfl⟩
  · omega
  · rw [hc, wh_nat, Nat.mod_eq_of_lt hj, q1, q2] at hsp
    have := eqn_erase h hi8 hj8 hsp
    rw [hk8] at this
    exact this
end
/-- Any, on both sides. -/
theorem any_both {W w : World} {b : Nat} {s : NS} {L : List Pcl} {T : Nat → Prop} (ho : Own W w b s T) (h : EqN s L) {x : Int} (hx : (Lit.int .i64 x).wf = true) :
    Calls Try.prog 14 #[.pointer (some ⟨b, 0, none⟩), .int .i64 x] w fun e w' => ∃ (p : Pcl) (bv : Bool) (s' : NS), e = .returned (.tuple #[.agg #[.int .i64 p.1, .int .i64 p.2.1, .string (str p.2.2)], .bool bv]) ∧ Own W w' b s' T ∧ Left W T w w' ∧
      ∀ w1 B c v e1 w2, AnyR w1 B c v L x e1 w2 → ∃ L', RDid w1 B c v L' (.tuple #[.agg #[.int .i64 p.1, .int .i64 p.2.1, .string (str p.2.2)], .bool bv]) e1 w2 ∧ EqN s' L' := by
  by_cases h0 : sum s 64 = 0
  · refine (AnyNone_own ho x h0).mono ?_
    rintro e w' ⟨rfl, o1, m1⟩
    refine ⟨(0, 0, []), false, s, rfl, o1, m1, fun w1 B c v e1 w2 hA => ?_⟩
    have hn := (eqn_any_none h).2 h0
    rcases hA with ⟨_, hd⟩ | ⟨q, L', hq, _⟩
    · exact ⟨L, hd, h⟩
    · rw [hn] at hq; simp at hq
  · refine (Any_own ho hx (by omega)).mono ?_
    rintro e w' ⟨k, j, hk, hj, hp, rfl, o1, m1⟩
    refine ⟨pAtN k (nth (s k) j), true, _, ?_, o1, m1, fun w1 B c v e1 w2 hA => ?_⟩
    · simp [pV, pAtN]
    · rcases hA with ⟨hn, _⟩ | ⟨q, L', hq, hT, hd⟩
      · exact absurd ((eqn_any_none h).1 hn) h0
      · obtain ⟨rfl, hE⟩ := eqn_any h hk hj hp hq hT
        exact ⟨L', hd, hE⟩
theorem eqn_lens {s : NS} {L : List Pcl} (h : EqN s L) : ∀ n, n ≤ 64 → (allR L n).length ≤ 12800 := fun n hn => by
  rw [h.all n hn, all_sum]
  have := sum_bound h.most n
  omega
/-- Both networks, beside blocks E of the statement's own. -/
structure Bo (W w : World) (b : Nat) (s : NS) (c : Nat) (v : Value) (L : List Pcl) (E : Nat → Prop) : Prop where
  own : Own W w b s (fun g => g = c ∨ v.ownBlock = some g ∨ E g)
  rn : RN w W.heap.size c v L
  le : W.heap.size ≤ c
  dis : ∀ g, E g → g ≠ c ∧ v.ownBlock ≠ some g
  eW : ∀ g, E g → W.heap.size ≤ g
section
variable {W w w' : World} {b c : Nat} {s s' : NS} {v : Value} {L L' : List Pcl} {E : Nat → Prop}
theorem Bo.lt (h : Bo W w b s c v L E) {g : Nat} (hg : E g) : g < w.heap.size := by obtain ⟨_, _, _, _, h4⟩ := h.own; exact h4 g (.inr (.inr hg))
theorem Bo.size (h : Bo W w b s c v L E) : W.heap.size ≤ w.heap.size := h.own.below.size
theorem Bo.to (h : Bo W w b s c v L E) (m : Below w.heap.size w w') : Bo W w' b s c v L E := ⟨h.own.later m, h.rn.below m, h.le, h.dis, h.eW⟩
/-- The program's network turned. -/
theorem Bo.net (h : Bo W w b s c v L E) (o : Own W w' b s' (fun g => g = c ∨ v.ownBlock = some g ∨ E g)) (m : Left W (fun g => g = c ∨ v.ownBlock = some g ∨ E g) w w') :
    Bo W w' b s' c v L E ∧ ∀ q o, E q → w'.cell? ⟨q, o, none⟩ = w.cell? ⟨q, o, none⟩ :=
  ⟨⟨o, h.rn.later m (fun hn => hn.2 (.inl rfl)) (fun _ hg hn => hn.2 (.inr (.inl hg))), h.le, h.dis, h.eW⟩, fun _ _ hq => m.cell (.inr (.inr hq)) (h.lt hq)⟩
/-- The document's network turned. -/
theorem Bo.ref (h : Bo W w b s c v L E) {x : Value} {e : Ending} (hd : RDid w W.heap.size c v L' x e w') :
    e = .returned x ∧ ∃ v', Bo W w' b s c v' L' E ∧ ∀ q o, E q → w'.cell? ⟨q, o, none⟩ = w.cell? ⟨q, o, none⟩ := by
  obtain ⟨he, v', h1, h2, h3⟩ := hd
  have hv : ∀ g, v.ownBlock = some g → W.heap.size ≤ g := fun _ hg => (h.rn.row.own hg).1
  refine ⟨he, v', ⟨?_, h1, h.le, fun g hg => ⟨(h.dis g hg).1, fun e => ?_⟩, h.eW⟩, fun q o hq => h2.cell (p := ⟨q, o, none⟩) (h.lt hq) (fun hn => ?_)⟩
  · refine h.own.turn (h2.mono (fun k _ hk => hk.elim .inl (fun h => .inr (.inl h)))) (fun g hg => ?_) (fun g hg => ?_) (fun g hg => ?_)
    · rcases hg with rfl | hg | hg
      · exact h.le
      · exact hv g hg
      · exact h.eW g hg
    · rcases hg with rfl | hg | hg
      · exact .inl (.inl rfl)
      · rcases h3 g hg with h4 | h4
        · exact .inl (.inr (.inl h4))
        · exact .inr h4
      · exact .inl (.inr (.inr hg))
    · rcases hg with rfl | hg | hg
      · exact h1.lt
      · exact (h1.row.own hg).2
      · exact Nat.lt_of_lt_of_le (h.lt hg) h2.size
  · rcases h3 g e with h4 | h4
    · exact (h.dis g hg).2 h4
    · have := h.lt hg; omega
  · rcases hn with hn | hn
    · exact (h.dis q hq).1 hn
    · exact (h.dis q hq).2 hn
/-- One block more of the statement's own. -/
theorem Bo.alloc (h : Bo W w b s c v L E) (o : Obj) : Bo W (w.alloc o) b s c v L (fun g => E g ∨ g = w.heap.size) := by
  have h1 := h.own.alloc o
  refine ⟨h1.weak (fun g hg => ?_), h.rn.below (balloc (Below.refl _ _) o), h.le, fun g hg => ?_, fun g hg => ?_⟩
  · rcases hg with hg | hg | hg | hg
    · exact .inl (.inl hg)
    · exact .inl (.inr (.inl hg))
    · exact .inl (.inr (.inr hg))
    · exact .inr hg
  · rcases hg with hg | rfl
    · exact h.dis g hg
    · exact ⟨fun e => by have := h.rn.lt; omega, fun e => by have := (h.rn.row.own e).2; omega⟩
  · rcases hg with hg | rfl
    · exact h.eW g hg
    · exact h.size
theorem Bo.weak (h : Bo W w b s c v L E) {E' : Nat → Prop} (hE : ∀ g, E' g → E g) : Bo W w b s c v L E' :=
  ⟨h.own.weak (fun g hg => hg.elim .inl (fun h => .inr (h.elim .inl (fun h => .inr (hE g h))))), h.rn, h.le, fun g hg => h.dis g (hE g hg), fun g hg => h.eW g (hE g hg)⟩
end
end Go.Proofs.Ytakhhpakajafkaa
