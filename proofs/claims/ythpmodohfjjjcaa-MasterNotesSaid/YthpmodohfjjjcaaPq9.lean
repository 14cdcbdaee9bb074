/- PLAIN: what changes leave of queues that may be. -/
import Derived.Test.YthpmodohfjjjcaaCl9
namespace Go.Proofs.Ythpmodohfjjjcaa
open Go.RowKit

def Dis (l : List Cl) : Prop := l.Pairwise (fun a b => a.1 ≠ b.1)
def Ris (l : List Cl) : Prop := l.Pairwise (fun a b => a.1 < b.1)
theorem Ris.dis {l : List Cl} (h : Ris l) : Dis l := h.imp fun h => Int.ne_of_lt h
theorem mode_mem {l : List Cl} (hd : Dis l) {c : Cl} (hc : c ∈ l) : modeM l c.1 = c.2 := by
  obtain ⟨k, hk, e⟩ := List.getElem_of_mem hc
  refine mode_at (i := k) (x := c) (by rw [List.getElem?_eq_getElem hk, e]) ?_ (by simp [ofQ])
  rw [List.any_eq_false]
  intro a ha
  obtain ⟨j, hj, rfl⟩ := List.getElem_of_mem ha
  rw [List.length_take] at hj
  rw [List.getElem_take]
  have := List.pairwise_iff_getElem.1 hd j k (by omega) hk (by omega)
  rw [e] at this
  simpa [ofQ] using this
theorem mode_not' {l : List Cl} {z : Int} (h : ∀ c ∈ l, c.1 ≠ z) : modeM l z = 0 :=
  mode_none (List.any_eq_false.2 fun c hc => by simpa [ofQ] using h c hc)
theorem mode_pos {l : List Cl} {z : Int} (h : modeM l z ≠ 0) : (z, modeM l z) ∈ l := by
  unfold modeM at h ⊢
  cases hf : l.find? (ofQ z) with
  | none => rw [hf] at h; exact absurd rfl h
  | some c =>
    have h1 := List.mem_of_find?_eq_some hf
    have h2 := List.find?_some hf
    have h3 : c.1 = z := by simpa [ofQ] using h2
    simp only [Option.map_some, Option.getD_some]
    rw [← h3]
    exact h1
/-- Two lists with each node once that have the same claims tell the same. -/
theorem mode_same {l m : List Cl} (hl : Dis l) (hm : Dis m) {z : Int} (h : ∀ c, c.1 = z → (c ∈ l ↔ c ∈ m)) : modeM l z = modeM m z := by
  by_cases h0 : modeM l z = 0
  · by_cases h1 : modeM m z = 0
    · rw [h0, h1]
    · have := (h _ rfl).2 (mode_pos h1)
      exact mode_mem hl this
  · have := (h _ rfl).1 (mode_pos h0)
    exact (mode_mem hm this).symm
theorem mem_del {l : List Cl} {z : Int} {c : Cl} : c ∈ delM l z ↔ c ∈ l ∧ c.1 ≠ z := by
  simp [delM, outC, outQ, ofQ]
theorem del_sub (l : List Cl) (z : Int) : (delM l z).Sublist l := List.filter_sublist
theorem mem_ins {l : List Cl} {i : Nat} {c x : Cl} : x ∈ insC l i c ↔ x ∈ l ∨ x = c := by
  simp only [insC, List.mem_append, List.mem_singleton]
  constructor
  · rintro ((h | h) | h)
    · exact .inl (List.mem_of_mem_take h)
    · exact .inr h
    · exact .inl (List.mem_of_mem_drop h)
  · rintro (h | h)
    · have h2 := h
      rw [← List.take_append_drop i l] at h2
      rcases List.mem_append.1 h2 with h3 | h3
      · exact .inl (.inl h3)
      · exact .inr h3
    · exact .inl (.inr h)
theorem mem_give {h : List Cl} {c x : Cl} : x ∈ giveM h c ↔ (x ∈ h ∧ x.1 ≠ c.1) ∨ (c.2 ≠ 0 ∧ x = c) := by
  unfold giveM
  split
  · rename_i h0
    rw [mem_del]
    exact ⟨.inl, fun h => h.elim id fun h => absurd h0 h.1⟩
  · rename_i h0
    rw [mem_ins, mem_del]
    exact ⟨fun h => h.imp id fun h => ⟨h0, h⟩, fun h => h.imp id fun h => h.2⟩
theorem ris_ins {l : List Cl} {c : Cl} (hr : Ris l) (hn : ∀ x ∈ l, x.1 ≠ c.1) : Ris (insC l (atM l c.1) c) := by
  have key : (∀ x ∈ l.take (atM l c.1), x.1 < c.1) ∧ ∀ x ∈ l.drop (atM l c.1), c.1 < x.1 := by
    cases ha : l.any (behQ c.1) with
    | false =>
      have e : atM l c.1 = l.length := by unfold atM; rw [idx_none ha]; rfl
      rw [e, List.take_length, List.drop_length]
      refine ⟨fun x hx => ?_, fun x hx => by cases hx⟩
      have h1 := List.any_eq_false.1 ha x hx
      have h2 := hn x hx
      simp only [behQ, decide_eq_true_eq] at h1
      omega
    | true =>
      obtain ⟨i, x, hi, hx, hno, hp⟩ := idx_some ha
      have e : atM l c.1 = i := by unfold atM; rw [hi, if_neg (by omega)]; rfl
      obtain ⟨hk, ex⟩ := List.getElem?_eq_some_iff.1 hx
      rw [e]
      refine ⟨fun y hy => ?_, fun y hy => ?_⟩
      · have h1 := List.any_eq_false.1 hno y hy
        have h2 := hn y (List.mem_of_mem_take hy)
        simp only [behQ, decide_eq_true_eq] at h1
        omega
      · have h1 : c.1 < x.1 := by simpa [behQ] using hp
        rw [List.drop_eq_getElem_cons hk, ex] at hy
        rcases List.mem_cons.1 hy with h2 | h2
        · rw [h2]; exact h1
        · obtain ⟨j, hj, rfl⟩ := List.getElem_of_mem h2
          rw [List.length_drop] at hj
          rw [List.getElem_drop]
          have := List.pairwise_iff_getElem.1 hr i (i + 1 + j) hk (by omega) (by omega)
          rw [ex] at this
          omega
  unfold insC Ris
  rw [List.append_assoc, List.pairwise_append]
  refine ⟨hr.sublist (List.take_sublist _ _), ?_, fun a ha b hb => ?_⟩
  · rw [List.singleton_append, List.pairwise_cons]
    exact ⟨key.2, hr.sublist (List.drop_sublist _ _)⟩
  · rcases List.mem_append.1 hb with h1 | h1
    · rw [List.mem_singleton] at h1
      rw [h1]; exact key.1 a ha
    · exact Int.lt_trans (key.1 a ha) (key.2 b h1)
theorem ris_give {h : List Cl} (c : Cl) (hr : Ris h) : Ris (giveM h c) := by
  have hd : Ris (delM h c.1) := hr.sublist (del_sub _ _)
  unfold giveM
  split
  · exact hd
  · exact ris_ins hd (fun x hx => (mem_del.1 hx).2)
theorem mode_give {h : List Cl} (c : Cl) (hr : Ris h) (z : Int) : modeM (giveM h c) z = if z = c.1 then c.2 else modeM h z := by
  have hg := (ris_give c hr).dis
  split
  · rename_i e
    subst e
    by_cases h0 : c.2 = 0
    · rw [h0]
      refine mode_not' fun x hx => ?_
      rcases mem_give.1 hx with h1 | h1
      · exact h1.2
      · exact absurd h0 h1.1
    · exact mode_mem hg (mem_give.2 (.inr ⟨h0, rfl⟩))
  · rename_i e
    refine mode_same hg hr.dis fun x hx => ?_
    rw [mem_give]
    constructor
    · rintro (h1 | h1)
      · exact h1.1
      · exact absurd (by rw [← hx, h1.2]) e
    · intro h1
      exact .inl ⟨h1, by rw [hx]; exact e⟩
theorem mode_del {l : List Cl} (hd : Dis l) (z y : Int) : modeM (delM l z) y = if y = z then 0 else modeM l y := by
  split
  · rename_i e
    refine mode_not' fun x hx => ?_
    rw [e]
    exact (mem_del.1 hx).2
  · rename_i e
    refine mode_same (hd.sublist (del_sub _ _)) hd fun x hx => ?_
    rw [mem_del]
    exact ⟨fun h => h.1, fun h => ⟨h, by rw [hx]; exact e⟩⟩

/-! ### fits, safe -/
theorem som_any {l : List Cl} {but m : Int} : soM l but m = true ↔ ∃ x ∈ l, x.1 ≠ but ∧ x.2 = m := by
  simp only [soM, List.any_eq_true, soC, Bool.and_eq_true, bne_iff_ne, beq_iff_eq]
theorem okm {m : Int} (h : m = 1 ∨ m = 2) : modeB m = true := by rcases h with rfl | rfl <;> rfl
theorem fit_one {m : Int} : fitB 1 m = true ↔ m = 0 ∨ m = 1 := by
  rcases mode_cases m with rfl | rfl | rfl | h
  · decide
  · decide
  · decide
  · have h0 : m ≠ 0 := fun e => by rw [e] at h; cases h
    have h1 : m ≠ 1 := fun e => by rw [e] at h; cases h
    simp [fitB, h, h0, h1]
theorem fit_two' {m : Int} : fitB 2 m = true ↔ m = 0 := by
  rcases mode_cases m with rfl | rfl | rfl | h
  · decide
  · decide
  · decide
  · have h0 : m ≠ 0 := fun e => by rw [e] at h; cases h
    simp [fitB, h, h0]
theorem fits_iff {h : List Cl} {c : Cl} (ho : ∀ x ∈ h, okC x) (hc : c.2 = 1 ∨ c.2 = 2) : fitsM h c = true ↔ ∀ x ∈ h, x.1 ≠ c.1 → fitB c.2 x.2 = true := by
  unfold fitsM strM strP
  rcases hc with e | e
  · rw [e, fit_one]
    constructor
    · intro hs x hx hne
      rw [fit_one]
      rcases (ho x hx).2.2 with e1 | e1
      · exact .inr e1
      · exfalso
        have : soM h c.1 2 = true := som_any.2 ⟨x, hx, hne, e1⟩
        rw [this] at hs
        simp at hs
    · intro hs
      have h2 : soM h c.1 2 = false := by
        cases hq : soM h c.1 2 with
        | false => rfl
        | true =>
          obtain ⟨x, hx, hne, e1⟩ := som_any.1 hq
          have := fit_one.1 (hs x hx hne)
          omega
      rw [h2]
      cases soM h c.1 1 <;> simp
  · rw [e, fit_two']
    constructor
    · intro hs x hx hne
      exfalso
      rcases (ho x hx).2.2 with e1 | e1
      · have h1 : soM h c.1 1 = true := som_any.2 ⟨x, hx, hne, e1⟩
        rw [h1] at hs
        cases hq : soM h c.1 2 <;> rw [hq] at hs <;> simp at hs
      · have h1 : soM h c.1 2 = true := som_any.2 ⟨x, hx, hne, e1⟩
        rw [h1] at hs
        simp at hs
    · intro hs
      have hno : ∀ m, soM h c.1 m = true → False := fun m hq => by
        obtain ⟨x, hx, hne, e1⟩ := som_any.1 hq
        have := fit_two'.1 (hs x hx hne)
        have := (ho x hx).2.2
        omega
      cases h2 : soM h c.1 2 with
      | true => exact absurd h2 (fun e => hno _ e)
      | false =>
        cases h1 : soM h c.1 1 with
        | true => exact absurd h1 (fun e => hno _ e)
        | false => simp
theorem beside_symm {a b : Cl} (h : Beside a b) : Beside b a := ⟨fun e => h.1 e.symm, by rw [fit_comm]; exact h.2⟩
theorem safe_give {h : List Cl} {c : Cl} (hs : SafeP h) (hm : modeB c.2 = true) (hf : ∀ x ∈ h, x.1 ≠ c.1 → fitB c.2 x.2 = true) : SafeP (giveM h c) := by
  have hd : (delM h c.1).Pairwise Beside := hs.2.sublist (del_sub _ _)
  refine ⟨fun x hx => ?_, ?_⟩
  · rcases mem_give.1 hx with h1 | h1
    · exact hs.1 x h1.1
    · rw [h1.2]; exact hm
  · unfold giveM
    split
    · exact hd
    · have hall : ∀ x ∈ delM h c.1, Beside c x := fun x hx => ⟨fun e => (mem_del.1 hx).2 e.symm, hf x (mem_del.1 hx).1 (mem_del.1 hx).2⟩
      unfold insC
      rw [List.append_assoc, List.pairwise_append]
      refine ⟨hd.sublist (List.take_sublist _ _), ?_, fun a ha b hb => ?_⟩
      · rw [List.singleton_append, List.pairwise_cons]
        exact ⟨fun x hx => hall x (List.mem_of_mem_drop hx), hd.sublist (List.drop_sublist _ _)⟩
      · rcases List.mem_append.1 hb with h1 | h1
        · rw [List.mem_singleton] at h1
          rw [h1]; exact beside_symm (hall a (List.mem_of_mem_take ha))
        · have := List.take_append_drop (atM (delM h c.1) c.1) (delM h c.1)
          rw [← this, List.pairwise_append] at hd
          exact hd.2.2 a ha b h1
/-- All but the front. -/
structure PreQ (h ws : List Cl) : Prop where
  rising : Ris h
  has : ∀ c ∈ h, okC c
  waits : ∀ c ∈ ws, okC c
  once : Dis ws
  safe : SafeP h
theorem OkQ.pre {h ws : List Cl} (x : OkQ h ws) : PreQ h ws := ⟨x.rising, x.has, x.waits, x.once, x.safe⟩
theorem PreQ.tail {h ws : List Cl} {c : Cl} (x : PreQ h (c :: ws)) (hf : fitsM h c = true) : PreQ (giveM h c) ws := by
  have hc := x.waits c (by simp)
  refine ⟨ris_give c x.rising, fun y hy => ?_, fun y hy => x.waits y (by simp [hy]), (List.pairwise_cons.1 x.once).2, safe_give x.safe (okm hc.2.2) ((fits_iff x.has hc.2.2).1 hf)⟩
  rcases mem_give.1 hy with h1 | h1
  · exact x.has y h1.1
  · rw [h1.2]; exact hc
theorem serve_ok : ∀ (ws h : List Cl), PreQ h ws → OkQ (givesM h (srv h ws)) (ws.drop (srv h ws).length)
  | [], h, x => ⟨x.rising, x.has, by simp, by simp, x.safe, fun c hc => by simp at hc⟩
  | c :: ws, h, x => by
    cases hf : fitsM h c with
    | true =>
      have e : srv h (c :: ws) = c :: srv (giveM h c) ws := by rw [srv, if_pos hf]
      rw [e]
      exact serve_ok ws (giveM h c) (x.tail hf)
    | false =>
      have e : srv h (c :: ws) = [] := by rw [srv, hf]; rfl
      rw [e]
      exact ⟨x.rising, x.has, x.waits, x.once, x.safe, fun d hd => by
        simp at hd
        subst hd
        exact hf⟩
theorem srv_front {h ws : List Cl} (hf : ∀ c, ws[0]? = some c → fitsM h c = false) : srv h ws = [] := by
  cases ws with
  | nil => rfl
  | cons c ws =>
    rw [srv, hf c rfl]
    rfl
theorem mode_three' {z : Int} (h : modeB z = true) : z = 0 ∨ z = 1 ∨ z = 2 := by
  rcases mode_cases z with h | h | h | h2
  · exact .inl h
  · exact .inr (.inl h)
  · exact .inr (.inr h)
  · rw [h] at h2; cases h2
theorem fit_weak {a b m : Int} (h : fitB a m = true) (hb : modeB b = true) (hle : b ≤ a) : fitB b m = true := by
  obtain ⟨h1, h2⟩ := fit_mode h
  rcases mode_three' h1 with rfl | rfl | rfl
  · rcases mode_three' hb with rfl | rfl | rfl
    · exact h
    · omega
    · omega
  · rcases mode_three' hb with rfl | rfl | rfl
    · rw [fit_comm, fit_none]; exact h2
    · exact h
    · omega
  · rcases mode_three' hb with rfl | rfl | rfl
    · rw [fit_comm, fit_none]; exact h2
    · rw [fit_two'] at h
      rw [h]; rfl
    · exact h
theorem okC_of {z m : Int} (hz : thereB z = true) (hm : somB m = true) : okC (z, m) := ⟨(there_iff hz).1, (there_iff hz).2, som_cases hm⟩
theorem ok_modeB {h : List Cl} (ho : ∀ x ∈ h, okC x) (z : Int) : modeB (modeM h z) = true := by
  by_cases h0 : modeM h z = 0
  · rw [h0]; rfl
  · exact okm (ho _ (mode_pos h0)).2.2
theorem cov_le {a b : Int} : covB a b = true ↔ modeB a = true ∧ modeB b = true ∧ b ≤ a := by
  unfold covB
  simp [and_assoc]
/-- What one asks for leaves a queue that may be, but for its front. -/
theorem do_pre (k : Op9) {h ws : List Cl} (x : OkQ h ws) {z : Int} (hz : thereB z = true) (m : Int) : PreQ (doH k h z m) (doW k h ws z m) := by
  cases k with
  | want =>
    show PreQ h (wantM h ws z m).1
    unfold wantM
    split
    · exact x.pre
    · rename_i hs
      have hs' : somB m = true := by cases hq : somB m <;> simp_all
      split
      · exact x.pre
      · split
        · rename_i h0
          have hw : ws ≠ [] := fun e => by rw [e] at h0; simp [idxM] at h0
          obtain ⟨y, ws', rfl⟩ : ∃ y ws', ws = y :: ws' := by
            cases ws with
            | nil => exact absurd rfl hw
            | cons y ws' => exact ⟨y, ws', rfl⟩
          have hy : y.1 = z := by
            have ha : (y :: ws').any (ofQ z) = true := by
              cases hq : (y :: ws').any (ofQ z) with
              | true => rfl
              | false => rw [idx_none hq] at h0; simp at h0
            obtain ⟨i, c, hi, hc, _, hp⟩ := idx_some ha
            rw [h0] at hi
            obtain rfl : i = 0 := by omega
            simp at hc
            subst hc
            simpa [ofQ] using hp
          have ho := List.pairwise_cons.1 x.once
          refine ⟨x.rising, x.has, fun c hc => ?_, List.pairwise_cons.2 ⟨fun a ha => by rw [← hy]; exact ho.1 a ha, ho.2⟩, x.safe⟩
          simp only [List.set_cons_zero, List.mem_cons] at hc
          rcases hc with rfl | hc
          · exact okC_of hz hs'
          · exact x.waits c (by simp [hc])
        · refine ⟨x.rising, x.has, fun c hc => ?_, ?_, x.safe⟩
          · rcases List.mem_append.1 hc with h1 | h1
            · exact x.waits c (mem_del.1 h1).1
            · rw [List.mem_singleton] at h1
              rw [h1]; exact okC_of hz hs'
          · show (delM ws z ++ [(z, m)]).Pairwise _
            rw [List.pairwise_append]
            refine ⟨x.once.sublist (del_sub _ _), by simp, fun a ha b hb => ?_⟩
            rw [List.mem_singleton] at hb
            rw [hb]; exact (mem_del.1 ha).2
  | drop =>
    show PreQ (dropM h z m) ws
    unfold dropM
    split
    · rename_i hd
      have hc := cov_le.1 hd.2
      have h0 : modeM h z ≠ 0 := fun e => by
        have h1 := hc.2.2
        have h2 := hd.1
        rcases mode_three' hc.2.1 with e1 | e1 | e1 <;> omega
      have hmem := mode_pos h0
      have hbes : ∀ y ∈ h, y.1 ≠ z → fitB (modeM h z) y.2 = true := fun y hy hne => by
        obtain ⟨i, hi, ei⟩ := List.getElem_of_mem hmem
        obtain ⟨j, hj, ej⟩ := List.getElem_of_mem hy
        rcases Nat.lt_trichotomy i j with hij | hij | hij
        · have := List.pairwise_iff_getElem.1 x.safe.2 i j hi hj hij
          rw [ei, ej] at this
          exact this.2
        · subst hij
          rw [ei] at ej
          exact absurd (by rw [← ej]) hne
        · have := List.pairwise_iff_getElem.1 x.safe.2 j i hj hi hij
          rw [ei, ej] at this
          rw [fit_comm]
          exact this.2
      refine ⟨ris_give _ x.rising, fun y hy => ?_, x.waits, x.once, safe_give x.safe hc.2.1 (fun y hy hne => fit_weak (hbes y hy hne) hc.2.1 hc.2.2)⟩
      rcases mem_give.1 hy with h1 | ⟨h1, rfl⟩
      · exact x.has y h1.1
      · refine ⟨(there_iff hz).1, (there_iff hz).2, ?_⟩
        rcases mode_three' hc.2.1 with e1 | e1 | e1
        · exact absurd e1 h1
        · exact .inl e1
        · exact .inr e1
    · exact x.pre
  | leave => exact ⟨x.rising.sublist (del_sub _ _), fun c hc => x.has c (mem_del.1 hc).1, fun c hc => x.waits c (mem_del.1 hc).1, x.once.sublist (del_sub _ _), ⟨fun c hc => x.safe.1 c (mem_del.1 hc).1, x.safe.2.sublist (del_sub _ _)⟩⟩
/-- P9.1, P9.4: a change leaves a queue that may be. -/
theorem new_ok (k : Op9) {h ws : List Cl} (x : OkQ h ws) (z m : Int) : OkQ (newH k h ws z m) (newW k h ws z m) := by
  unfold newH newW
  cases hz : thereB z with
  | false => simpa using x
  | true =>
    simp only [if_true]
    exact serve_ok _ _ (do_pre k x hz m)
theorem ok_empty : OkQ [] [] := ⟨List.Pairwise.nil, by simp, by simp, List.Pairwise.nil, ⟨by simp, List.Pairwise.nil⟩, fun c h => by simp at h⟩
/-- There are at most eight of them. -/
theorem dis_eight {l : List Cl} (hd : Dis l) (ho : ∀ c ∈ l, okC c) : l.length ≤ 8 := by
  have h1 : (l.map fun c => c.1.toNat).Nodup := by
    rw [List.nodup_iff_pairwise_ne, List.pairwise_map]
    refine List.Pairwise.imp_of_mem (fun {a b} ha hb h => ?_) hd
    have h1 := (ho a ha).1
    have h2 := (ho b hb).1
    omega
  have h2 : (l.map fun c => c.1.toNat) ⊆ List.range 8 := fun n hn => by
    obtain ⟨c, hc, rfl⟩ := List.mem_map.1 hn
    have := ho c hc
    rw [List.mem_range]
    have h1 := this.1
    have h2 := this.2.1
    omega
  have := List.Nodup.length_le_of_subset h1 h2
  simpa using this
theorem ok_eight {h ws : List Cl} (x : OkQ h ws) : h.length ≤ 8 ∧ ws.length ≤ 8 := ⟨dis_eight (Ris.dis x.rising) x.has, dis_eight x.once x.waits⟩
end Go.Proofs.Ythpmodohfjjjcaa
