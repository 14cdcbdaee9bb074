/- Claims that may stand beside each other. -/
import Derived.Test.YthpmodohfjjjcaaStm
import Derived.Test.YthpmodohfjjjcaaMapI9
import Derived.Test.YthpmodohfjjjcaaRow
namespace Go.Proofs.Ythpmodohfjjjcaa
open Go.RowKit Go.MapKept
open Go.ChangeMaps (setBlock heap_setBlock_same heap_setBlock_other)
open Go.WideElems (Fit rd rg pl rd_key rd_val rg_of rd_mk)
open Go.Maps (Keyed)

def Beside (a b : Cl) : Prop := a.1 ≠ b.1 ∧ fitB a.2 b.2 = true
instance (a b : Cl) : Decidable (Beside a b) := by unfold Beside; exact inferInstance
def SafeP (l : List Cl) : Prop := (∀ c ∈ l, modeB c.2 = true) ∧ l.Pairwise Beside
instance (l : List Cl) : Decidable (SafeP l) := by unfold SafeP; exact inferInstance
def safeB (l : List Cl) : Bool := decide (SafeP l)
theorem fit_comm (a b : Int) : fitB a b = fitB b a := by
  unfold fitB
  cases modeB a <;> cases modeB b <;> simp [Bool.or_comm, Bool.and_comm]
theorem fit_mode {a b : Int} (h : fitB a b = true) : modeB a = true ∧ modeB b = true := by
  unfold fitB at h
  simp only [Bool.and_eq_true] at h
  exact h.1
theorem safe_snoc (t : List Cl) (c : Cl) : SafeP (t ++ [c]) ↔ SafeP t ∧ modeB c.2 = true ∧ ∀ a ∈ t, Beside a c := by
  unfold SafeP
  rw [List.pairwise_append]
  simp only [List.mem_append, List.mem_singleton, List.pairwise_cons, List.not_mem_nil, false_implies, implies_true, List.Pairwise.nil, and_true, true_and]
  constructor
  · rintro ⟨h1, h2, h3⟩
    exact ⟨⟨fun a ha => h1 a (.inl ha), h2⟩, h1 c (.inr rfl), fun a ha => h3 a ha c rfl⟩
  · rintro ⟨⟨h1, h2⟩, h3, h4⟩
    exact ⟨fun a ha => ha.elim (h1 a) (fun e => e ▸ h3), h2, fun a ha b hb => hb ▸ h4 a ha⟩
/-- The strongest mode so far. -/
def topM (l : List Cl) : Int := l.foldl (fun t c => maxM t c.2) 0
theorem top_step {l : List Cl} {i : Nat} {c : Cl} (h : l[i]? = some c) : topM (l.take (i + 1)) = maxM (topM (l.take i)) c.2 := by
  obtain ⟨hk, e⟩ := List.getElem?_eq_some_iff.1 h
  unfold topM
  rw [List.take_succ_eq_append_getElem hk, e, List.foldl_append]
  rfl
theorem max_mode {a b : Int} (ha : modeB a = true) (hb : modeB b = true) : modeB (maxM a b) = true := by
  rcases mode_cases a with rfl | rfl | rfl | h
  · rcases mode_cases b with rfl | rfl | rfl | h
    · rfl
    · rfl
    · rfl
    · rw [h] at hb; cases hb
  · rcases mode_cases b with rfl | rfl | rfl | h
    · rfl
    · rfl
    · rfl
    · rw [h] at hb; cases hb
  · rcases mode_cases b with rfl | rfl | rfl | h
    · rfl
    · rfl
    · rfl
    · rw [h] at hb; cases hb
  · rw [h] at ha; cases ha
theorem fit_max (m : Int) {a b : Int} (ha : modeB a = true) (hb : modeB b = true) : fitB m (maxM a b) = (fitB m a && fitB m b) := by
  rcases mode_cases m with rfl | rfl | rfl | h
  case inr.inr.inr => simp [fitB, h]
  all_goals
    rcases mode_cases a with rfl | rfl | rfl | h
    case inr.inr.inr => rw [h] at ha; cases ha
    all_goals
      rcases mode_cases b with rfl | rfl | rfl | h
      case inr.inr.inr => rw [h] at hb; cases hb
      all_goals rfl
theorem top_fit (m : Int) : ∀ (l : List Cl) (t0 : Int), modeB t0 = true → (∀ c ∈ l, modeB c.2 = true) → fitB m (l.foldl (fun t c => maxM t c.2) t0) = (fitB m t0 && l.all fun c => fitB m c.2)
  | [], t0, _, _ => by simp
  | c :: l, t0, h0, h => by
    rw [List.foldl_cons, top_fit m l _ (max_mode h0 (h c (by simp))) (fun x hx => h x (by simp [hx])), fit_max m h0 (h c (by simp)), List.all_cons, Bool.and_assoc]
def wrongC (t : List Cl) (c : Cl) : Bool := t.any (fun a => a.1 == c.1) || !fitB c.2 (topM t)
def wrongQ (l : List Cl) (i : Nat) : Bool := ((l[i]?).map (wrongC (l.take i))).getD false
theorem fit_none (m : Int) : fitB m 0 = modeB m := by
  unfold fitB
  cases modeB m <;> simp [modeB]
theorem wrong_iff {t : List Cl} (c : Cl) (h : SafeP t) : wrongC t c = false ↔ SafeP (t ++ [c]) := by
  rw [safe_snoc, wrongC, topM, top_fit c.2 t 0 rfl h.1, fit_none]
  simp only [Bool.or_eq_false_iff, List.any_eq_false, Bool.not_eq_false', Bool.and_eq_true, List.all_eq_true, beq_iff_eq]
  constructor
  · rintro ⟨h1, h2, h3⟩
    exact ⟨h, h2, fun a ha => ⟨h1 a ha, by rw [fit_comm]; exact h3 a ha⟩⟩
  · rintro ⟨_, h2, h3⟩
    exact ⟨fun a ha => (h3 a ha).1, h2, fun a ha => by rw [fit_comm]; exact (h3 a ha).2⟩
theorem safe_take {l : List Cl} {k : Nat} (h : SafeP l) : SafeP (l.take k) :=
  ⟨fun c hc => h.1 c (List.mem_of_mem_take hc), h.2.sublist (List.take_sublist k l)⟩
theorem wrong_any (l : List Cl) : ∀ k, k ≤ l.length → (anyQ (wrongQ l) k = false ↔ SafeP (l.take k))
  | 0, _ => by simp [any_zero, SafeP]
  | k + 1, hk => by
    have ih := wrong_any l k (by omega)
    have hx : l[k]? = some l[k] := List.getElem?_eq_getElem (by omega)
    rw [any_next, Bool.or_eq_false_iff, ih, List.take_succ_eq_append_getElem (by omega)]
    constructor
    · rintro ⟨h1, h2⟩
      rw [wrongQ, hx] at h2
      exact (wrong_iff _ h1).1 h2
    · intro h
      have h1 := ((safe_snoc _ _).1 h).1
      refine ⟨h1, ?_⟩
      rw [wrongQ, hx]
      exact (wrong_iff _ h1).2 h
theorem wrong_all (l : List Cl) : (!anyQ (wrongQ l) l.length) = safeB l := by
  have h := wrong_any l l.length (Nat.le_refl _)
  rw [List.take_length] at h
  unfold safeB
  cases hq : anyQ (wrongQ l) l.length with
  | false => simp [h.1 hq]
  | true =>
    have : ¬ SafeP l := fun hs => by rw [h.2 hs] at hq; cases hq
    simp [this]

/-! ### what the program keeps: a set of nodes -/
def setF (t : List Cl) (k : Int) : Option Value := if t.any (fun a => a.1 == k) then some (.agg #[]) else none
theorem setF_step {l : List Cl} {i : Nat} {c : Cl} (h : l[i]? = some c) : put (setF (l.take i)) c.1 (some (.agg #[])) = setF (l.take (i + 1)) := by
  obtain ⟨hk, e⟩ := List.getElem?_eq_some_iff.1 h
  rw [List.take_succ_eq_append_getElem hk, e]
  funext k
  unfold put setF
  rw [List.any_append]
  by_cases hkc : k = c.1
  · subst hkc; simp
  · have h2 : ([c].any fun a => a.1 == k) = false := by simpa using fun e => hkc e.symm
    rw [if_neg hkc, h2, Bool.or_false]
theorem zeroU (w : World) : (zeroValue 141).run Try.prog w = .ok (.agg #[]) w := by kernel_rfl
theorem IsMap.look2 {w : World} {b n : Nat} {t : List Cl} (h : IsMap w b n (setF t)) {k : Int} (hk : (Lit.int .i64 k).wf = true) :
    (Instr.lookup 140 (.map (some b)) (.int .i64 k) true).run Try.prog w = .ok (.tuple #[.agg #[], .bool (t.any fun a => a.1 == k)]) w := by
  obtain ⟨es, clock, h1, h2, h3, h4, h5⟩ := h
  rcases Maps.fit_look true keyI Try.underlying140 (zeroU w) h1 h2 (keyI_mk hk) with ⟨hrun, hno, _⟩ | ⟨e0, y, hm, hkey, hrun, _⟩
  · have : t.any (fun a => a.1 == k) = false := by
      cases hf : t.any (fun a => a.1 == k) with
      | false => rfl
      | true =>
        obtain ⟨x, hx, hxk, _⟩ := h5 k (.agg #[]) (by simp [setF, hf])
        exact absurd hxk (hno x hx)
    rw [this]
    exact hrun
  · obtain ⟨i, _, hi, hf⟩ := h4 e0 hm
    rw [hkey] at hi
    have e1 := vint hi
    subst e1
    cases hq : t.any (fun a => a.1 == k) with
    | false => simp [setF, hq] at hf
    | true =>
      simp only [setF, hq, if_true, Option.some.injEq] at hf
      rw [← hf] at hrun
      exact hrun
/-- What Safe keeps, ahead of claim i. -/
structure Kept (W : World) (l : List Cl) (p i : Nat) (u : World) : Prop where
  map : IsMap u p i (setF (l.take i))
  top : u.cell? ⟨p + 1, 0, none⟩ = some (.int .i64 (topM (l.take i)))
  seen : u.cell? ⟨p + 2, 0, none⟩ = some (.map (some p))
  ft : u.frozen? ⟨p + 1, 0, none⟩ = false
  below : Below W.heap.size W u
  low : W.heap.size ≤ p
theorem kept_store {W : World} {l : List Cl} {p i : Nat} {u w2 : World} (h : Kept W l p i u) (hb : Below u.heap.size u w2) {c : Cl} (hc : l[i]? = some c) (wf : (Lit.int .i64 c.1).wf = true) (hi : i < maxLen) :
    ∃ w3, (Instr.mapUpdate 140 (.map (some p)) (.int .i64 c.1) (.agg #[])).run Try.prog w2 = .ok () w3 ∧ IsMap w3 p (i + 1) (setF (l.take (i + 1))) ∧ Mod (· = p) w2 w3 ∧
      w3.cell? ⟨p + 1, 0, none⟩ = some (.int .i64 (topM (l.take i))) ∧ w3.cell? ⟨p + 2, 0, none⟩ = some (.map (some p)) ∧ w3.frozen? ⟨p + 1, 0, none⟩ = false ∧ Below W.heap.size W w3 := by
  have hm := h.map.later (Mod.of_below (S := fun _ => False) hb) id
  obtain ⟨w3, hrun, h3, h4, _⟩ := hm.store Try.underlying140 hi wf (.agg #[])
  rw [setF_step hc] at h3
  have l1 := lt_of_cell h.top
  have l2 := lt_of_cell h.seen
  refine ⟨w3, hrun, h3, h4, ?_, ?_, ?_, bmod (bnext h.below hb) h4 h.low⟩
  · exact (h4.cell (p := ⟨p + 1, 0, none⟩) (Nat.lt_of_lt_of_le l1 hb.size) (by simp)).trans ((hb.cell (p := ⟨p + 1, 0, none⟩) l1).trans h.top)
  · exact (h4.cell (p := ⟨p + 2, 0, none⟩) (Nat.lt_of_lt_of_le l2 hb.size) (by simp)).trans ((hb.cell (p := ⟨p + 2, 0, none⟩) l2).trans h.seen)
  · exact (h4.frozen (p := ⟨p + 1, 0, none⟩) (Nat.lt_of_lt_of_le l1 hb.size) (by simp)).trans ((hb.frozen (p := ⟨p + 1, 0, none⟩) l1).trans h.ft)
/-- What is left once the top is stored. -/
theorem kept_top {W : World} {l : List Cl} {p i : Nat} {w3 w4 : World} {c : Cl} (hc : l[i]? = some c) (hm : IsMap w3 p (i + 1) (setF (l.take (i + 1)))) (hs : w3.cell? ⟨p + 2, 0, none⟩ = some (.map (some p)))
    (ht : w3.cell? ⟨p + 1, 0, none⟩ = some (.int .i64 (topM (l.take i)))) (hf : w3.frozen? ⟨p + 1, 0, none⟩ = false) (hb : Below W.heap.size W w3) (lo : W.heap.size ≤ p) (hb4 : Below w3.heap.size w3 w4) :
    Kept W l p (i + 1) (w4.setCell ⟨p + 1, 0, none⟩ (.int .i64 (maxM (topM (l.take i)) c.2))) := by
  have l1 := lt_of_cell ht
  have l2 := lt_of_cell hs
  have e1 : w4.cell? ⟨p + 1, 0, none⟩ = some (.int .i64 (topM (l.take i))) := (hb4.cell (p := ⟨p + 1, 0, none⟩) l1).trans ht
  have e2 : w4.cell? ⟨p + 2, 0, none⟩ = some (.map (some p)) := (hb4.cell (p := ⟨p + 2, 0, none⟩) l2).trans hs
  refine ⟨(hm.later (Mod.of_below (S := fun _ => False) hb4) id).block (Below.heap_setCell w4 ⟨p + 1, 0, none⟩ _ p (by show p ≠ p + 1; omega)), ?_, ?_, ?_, (bnext hb hb4).setCell (by show _ ≤ p + 1; omega) _, lo⟩
  · rw [top_step hc]
    exact set_same e1
  · exact set_other (by simp) e2
  · exact set_frozen ((hb4.frozen (p := ⟨p + 1, 0, none⟩) l1).trans hf)
set_option maxRecDepth 100000 in
set_option maxHeartbeats 1000000 in
theorem kept_run {W : World} {l : List Cl} {p i : Nat} {u : World} (h : Kept W l p i u) {c : Cl} (hc : l[i]? = some c) (wf : (Lit.int .i64 c.1).wf = true) (hi : i < maxLen) :
    Calls Try.prog 100 #[clV c, .pointer (some ⟨p + 2, 0, none⟩), .pointer (some ⟨p + 1, 0, none⟩)] u fun e u' => e = .returned (.bool (wrongQ l i)) ∧ Kept W l p (i + 1) u' := by
  have H := Lib.hid h
  have hlt : p < u.heap.size := h.map.lt
  have hlt1 := lt_of_cell h.top
  have hlt2 := lt_of_cell h.seen
  have hlook := (h.map.later ((Mod.refl (fun _ => False) u).alloc (.cells #[.int .i64 c.1, .int .i64 c.2] 61)) id).look2 wf
  have ct := h.top
  have cs := h.seen
  have cf := h.ft
  obtain ⟨tw, Htw⟩ : ∃ x, Hid ((l.take i).any (fun a => a.1 == c.1) = x) := ⟨_, Lib.hid rfl⟩
  obtain ⟨T, HT⟩ : ∃ x, Hid (topM (l.take i) = x) := ⟨_, Lib.hid rfl⟩
  have hw : Hid (wrongQ l i = (tw || !fitB c.2 T)) := Lib.hid (by rw [wrongQ, hc, ← Htw.out, ← HT.out]; rfl)
  rw [Htw.out] at hlook
  rw [HT.out] at ct
  rw [hw.out]
  have Hc := Lib.hid hc
  have Hwf := Lib.hid wf
  clear h hc wf
  go_enter Try.func100, Try.ntmps100
  cases tw
  · obtain ⟨fb, Hfb⟩ : ∃ x, Hid (fitB c.2 T = x) := ⟨_, Lib.hid rfl⟩
    rw [Hfb.out]
    go_wp2_with fail
    refine (Fit_any _ c.2 T).mono ?_
    rw [Hfb.out]
    rintro e w2 ⟨rfl, hb⟩
    have Hb := Lib.hid (bnext (balloc (balloc (Below.refl _ _) _) _) hb)
    have hk0 : w2.cell? ⟨u.heap.size, 0, none⟩ = some (.int .i64 c.1) := by rw [hb.cell (by simp; omega)]; simp [go_sem]
    have hk1 : w2.cell? ⟨u.heap.size, 1, none⟩ = some (.int .i64 c.2) := by rw [hb.cell (by simp; omega)]; simp [go_sem]
    have hs2 := (Hb.out.cell (p := ⟨p + 2, 0, none⟩) hlt2).trans H.out.seen
    obtain ⟨w3, hrun, hm3, hmod, ht3, hs3, hf3, hb3⟩ := kept_store H.out Hb.out Hc.out Hwf.out hi
    have hj1 : w3.cell? ⟨u.heap.size, 1, none⟩ = some (.int .i64 c.2) := (hmod.cell (p := ⟨u.heap.size, 1, none⟩) (lt_of_cell hk1) (show ¬ u.heap.size = p by omega)).trans hk1
    have K3 := Lib.hid (And.intro hm3 (And.intro hs3 (And.intro ht3 (And.intro hf3 hb3))))
    rw [HT.out] at ht3
    obtain ⟨M, HM⟩ : ∃ x, Hid (maxM T c.2 = x) := ⟨_, Lib.hid rfl⟩
    clear hb hm3 hmod hs3 hb3 hlook
    go_wp2_with fail
    refine (Max_any _ T c.2).mono ?_
    rw [HM.out]
    rintro e w4 ⟨rfl, hb4⟩
    have Hb4 := Lib.hid hb4
    have ht4 := (hb4.cell (p := ⟨p + 1, 0, none⟩) (lt_of_cell ht3)).trans ht3
    have hf4 := (hb4.frozen (p := ⟨p + 1, 0, none⟩) (lt_of_cell ht3)).trans hf3
    clear hb4
    have Hend : Hid (Kept W l p (i + 1) (w4.setCell ⟨p + 1, 0, none⟩ (.int .i64 M))) := Lib.hid (by
      rw [← HM.out, ← HT.out]
      exact kept_top Hc.out K3.out.1 K3.out.2.1 K3.out.2.2.1 K3.out.2.2.2.1 K3.out.2.2.2.2 H.out.low Hb4.out)
    go_wp2
    go_ret
    exact ⟨rfl, Hend.out⟩
  · obtain ⟨w3, hrun, hm3, hmod, ht3, hs3, hf3, hb3⟩ := kept_store H.out (balloc (balloc (Below.refl _ _) (.cells #[.int .i64 c.1, .int .i64 c.2] 61)) (.cells #[] 141)) Hc.out Hwf.out hi
    have hj1 : w3.cell? ⟨u.heap.size, 1, none⟩ = some (.int .i64 c.2) := (hmod.cell (p := ⟨u.heap.size, 1, none⟩) (by simp; omega) (show ¬ u.heap.size = p by omega)).trans (by simp [go_sem])
    have K3 := Lib.hid (And.intro hm3 (And.intro hs3 (And.intro ht3 (And.intro hf3 hb3))))
    rw [HT.out] at ht3
    obtain ⟨M, HM⟩ : ∃ x, Hid (maxM T c.2 = x) := ⟨_, Lib.hid rfl⟩
    clear hm3 hmod hs3 hb3
    go_wp2_with fail
    refine (Max_any _ T c.2).mono ?_
    rw [HM.out]
    rintro e w4 ⟨rfl, hb4⟩
    have Hb4 := Lib.hid hb4
    have ht4 := (hb4.cell (p := ⟨p + 1, 0, none⟩) (lt_of_cell ht3)).trans ht3
    have hf4 := (hb4.frozen (p := ⟨p + 1, 0, none⟩) (lt_of_cell ht3)).trans hf3
    clear hb4
    have Hend : Hid (Kept W l p (i + 1) (w4.setCell ⟨p + 1, 0, none⟩ (.int .i64 M))) := Lib.hid (by
      rw [← HM.out, ← HT.out]
      exact kept_top Hc.out K3.out.1 K3.out.2.1 K3.out.2.2.1 K3.out.2.2.2.1 K3.out.2.2.2.2 H.out.low Hb4.out)
    go_wp2
    go_ret
    exact ⟨rfl, Hend.out⟩
set_option maxRecDepth 100000 in
set_option maxHeartbeats 1000000 in
theorem Safe_any (w : World) (A : Option Addr) (n cp : Nat) (l : List Cl) (hl : IsC w A n l) :
    Calls Try.prog 94 #[.slice A n cp] w fun e w' => e = .returned (.bool (safeB l)) ∧ Below w.heap.size w w' := by
  have Hl := Lib.hid hl
  have HQ : Hid ((!anyQ (wrongQ l) n) = safeB l) := Lib.hid (by rw [← hl.length]; exact wrong_all l)
  obtain ⟨R, HR⟩ : ∃ R, Hid (anyQ (wrongQ l) n = R) := ⟨_, Lib.hid rfl⟩
  rw [HR.out] at HQ
  rw [← HQ.out]
  have hmm := @run_makeMap Try.prog
  have hmk := IsMap.made w
  have HK := Lib.hid hmk
  clear hl hmk
  go_enter Try.func94, Try.ntmps94
  go_wp2_with fail
  obtain ⟨w1, Hw1⟩ : ∃ w1, Hid (((w.alloc (.map #[] 0)).alloc (.cells #[.int .i64 0] 3)).alloc (.cells #[.map (some w.heap.size)] 140) = w1) := ⟨_, Lib.hid rfl⟩
  obtain ⟨p, Hp⟩ : ∃ p, Hid (w.heap.size = p) := ⟨_, Lib.hid rfl⟩
  have HK0 : Hid (Kept w l p 0 w1) := Lib.hid (by
    rw [← Hw1.out, ← Hp.out]
    refine ⟨?_, ?_, ?_, ?_, balloc (balloc (balloc (Below.refl _ _) _) _) _, Nat.le_refl _⟩
    · have e : setF (l.take 0) = fun _ => none := by funext k; simp [setF]
      rw [e]
      exact HK.out.later (((Mod.refl (fun _ => False) _).alloc _).alloc _) id
    · simp [go_sem, topM]
    · simp [go_sem]
    · simp [go_sem])
  rw [Hw1.out, Hp.out]
  refine (ContainsFunc_any w w1 A n cp l Hl.out 100 _ _ (Kept w l p) (wrongQ l) ⟨fun _ _ => rfl, HK0.out, fun _ _ h => h.below, fun i u c hu hc => ?_⟩).mono ?_
  · have hi : i < l.length := (List.getElem?_eq_some_iff.1 hc).1
    exact kept_run hu hc (Hl.out.wf c (List.mem_of_getElem? hc)).1 (by have := Hl.out.length; have := Hl.out.max; omega)
  rw [HR.out]
  rintro e w2 ⟨rfl, i, hk⟩
  have Hb := Lib.hid hk.below
  clear hk hmm
  go_wp2
  go_ret
  exact ⟨rfl, Hb.out⟩
end Go.Proofs.Ythpmodohfjjjcaa
