/- PLAIN: only who waited, or wanted it just now, is served; nobody who waits is overtaken. -/
import Derived.Test.YtbeoigkjlgimdaaPe9
namespace Go.Proofs.Ytbeoigkjlgimdaa
open Go.RowKit

theorem del_snoc (l : List Cl) (z m : Int) : delM (delM l z ++ [(z, m)]) z = delM l z := by
  have h1 : delM (delM l z) z = delM l z := List.filter_eq_self.2 fun c hc => by
    have := (mem_del.1 hc).2
    simpa [outQ, ofQ] using this
  unfold delM outC at h1 ⊢
  rw [List.filter_append, h1]
  simp [outQ, ofQ]
theorem del_del (l : List Cl) (z : Int) : delM (delM l z) z = delM l z := List.filter_eq_self.2 fun c hc => by
  have := (mem_del.1 hc).2
  simpa [outQ, ofQ] using this
/-- The others wait as they did, in the same order. -/
theorem do_others (k : Op9) (h ws : List Cl) (z m : Int) : delM (doW k h ws z m) z = delM ws z := by
  cases k with
  | want =>
    show delM (wantM h ws z m).1 z = _
    unfold wantM
    split
    · rfl
    · split
      · rfl
      · split
        · rename_i h0
          obtain ⟨y, ws', rfl⟩ : ∃ y ws', ws = y :: ws' := by
            cases ws with
            | nil => simp [idxM] at h0
            | cons y ws' => exact ⟨y, ws', rfl⟩
          have hy : ofQ z y = true := by
            have ha : (y :: ws').any (ofQ z) = true := by
              cases hq : (y :: ws').any (ofQ z) with
              | true => rfl
              | false => rw [idx_none hq] at h0; simp at h0
            obtain ⟨i, c, hi, hc, _, hp⟩ := idx_some ha
            rw [h0] at hi
            obtain rfl : i = 0 := by omega
            simp at hc
            subst hc
            exact hp
          have h2 : outQ (ofQ z) y = false := by simp [outQ, hy]
          have h3 : outQ (ofQ z) (z, m) = false := by simp [outQ, ofQ]
          unfold delM outC
          simp only [List.set_cons_zero, List.filter_cons, h2, h3, Bool.false_eq_true, if_false]
        · exact del_snoc ws z m
  | drop => rfl
  | leave => exact del_del ws z
theorem do_waits (k : Op9) {h ws : List Cl} (x : OkQ h ws) {z : Int} (hz : thereB z = true) (m : Int) {n : Int} (hn : n ≠ z) : modeM (doW k h ws z m) n = modeM ws n := by
  refine mode_same (do_pre k x hz m).once x.once fun c hc => ?_
  have h1 : c ∈ delM (doW k h ws z m) z ↔ c ∈ delM ws z := by rw [do_others]
  rw [mem_del, mem_del] at h1
  have hne : c.1 ≠ z := by rw [hc]; exact hn
  exact ⟨fun h => (h1.1 ⟨h, hne⟩).1, fun h => (h1.2 ⟨h, hne⟩).1⟩
/-- Who is served has what it waited for, or what it has just asked for. -/
theorem told_served (k : Op9) {h ws : List Cl} (x : OkQ h ws) (z m : Int) {c : Cl} (hc : c ∈ newT k h ws z m) : modeM (newH k h ws z m) c.1 = c.2 ∧ (c.1 ≠ z → modeM ws c.1 = c.2) := by
  unfold newT at hc
  unfold newH
  cases hz : thereB z with
  | false => rw [hz] at hc; simp at hc
  | true =>
    rw [hz] at hc
    simp only [if_true] at hc ⊢
    have p := do_pre k x hz m
    rcases List.mem_append.1 hc with h1 | h1
    · cases k with
      | want =>
        have h2 : c ∈ (wantM h ws z m).2 := h1
        show modeM (givesM h (srv h (wantM h ws z m).1)) c.1 = c.2 ∧ _
        unfold wantM at h2 ⊢
        split at h2
        · cases h2
        · rename_i hs
          rw [if_neg hs]
          split at h2
          · rename_i hcv
            rw [if_pos hcv]
            simp only [List.mem_singleton] at h2
            subst h2
            rw [srv_front x.front]
            exact ⟨rfl, fun e => absurd rfl e⟩
          · split at h2 <;> cases h2
      | drop => cases h1
      | leave => cases h1
    · have h2 : (srv (doH k h z m) (doW k h ws z m)).any (ofQ c.1) = true := any_of.2 ⟨c, h1, rfl⟩
      have h3 : c ∈ doW k h ws z m := by rw [srv_take] at h1; exact List.mem_of_mem_take h1
      have h4 := mode_mem p.once h3
      refine ⟨by rw [served p, if_pos h2, h4], fun hne => ?_⟩
      rw [← do_waits k x hz m hne, h4]
/-- Who waits no more has what it waited for. -/
theorem gone_served (k : Op9) {h ws : List Cl} (x : OkQ h ws) (z m : Int) {c : Cl} (hc : c ∈ ws) (hne : c.1 ≠ z) (h0 : modeM (newW k h ws z m) c.1 = 0) : modeM (newH k h ws z m) c.1 = c.2 := by
  have hm := mode_mem x.once hc
  have hok := (x.waits c hc).2.2
  unfold newW at h0
  unfold newH
  cases hz : thereB z with
  | false => rw [hz] at h0; simp at h0; omega
  | true =>
    rw [hz] at h0
    simp only [if_true] at h0 ⊢
    have p := do_pre k x hz m
    rw [waiting p] at h0
    rw [served p]
    split at h0
    · rename_i ha
      rw [if_pos ha, do_waits k x hz m hne, hm]
    · rw [do_waits k x hz m hne, hm] at h0
      omega
/-- Who is ahead of one that waits no more waits no more either. -/
theorem nobody_overtaken (k : Op9) {h ws : List Cl} (x : OkQ h ws) (z m : Int) : ws.Pairwise fun a b => a.1 ≠ z → b.1 ≠ z → modeM (newW k h ws z m) b.1 = 0 → modeM (newW k h ws z m) a.1 = 0 := by
  unfold newW
  cases hz : thereB z with
  | false =>
    simp only [Bool.false_eq_true, if_false]
    refine List.Pairwise.imp_of_mem (fun {a b} _ hb _ _ _ h0 => ?_) x.once
    have := mode_mem x.once hb
    have h1 := (x.waits b hb).2.2
    omega
  | true =>
    simp only [if_true]
    have p := do_pre k x hz m
    have hsp := srv_split (doW k h ws z m) (doH k h z m)
    have hL : delM ws z = delM (srv (doH k h z m) (doW k h ws z m)) z ++ delM ((doW k h ws z m).drop (srv (doH k h z m) (doW k h ws z m)).length) z := by
      rw [← do_others k h ws z m]
      conv => lhs; rw [hsp]
      exact List.filter_append ..
    have key : (delM ws z).Pairwise fun a b => modeM ((doW k h ws z m).drop (srv (doH k h z m) (doW k h ws z m)).length) b.1 = 0 → modeM ((doW k h ws z m).drop (srv (doH k h z m) (doW k h ws z m)).length) a.1 = 0 := by
      have hP : ∀ a ∈ delM (srv (doH k h z m) (doW k h ws z m)) z, modeM ((doW k h ws z m).drop (srv (doH k h z m) (doW k h ws z m)).length) a.1 = 0 := fun a ha => by
        rw [waiting p, if_pos (any_of.2 ⟨a, (mem_del.1 ha).1, rfl⟩)]
      rw [hL, List.pairwise_append]
      refine ⟨List.pairwise_iff_getElem.2 fun i j hi hj _ _ => hP _ (List.getElem_mem _), List.pairwise_iff_getElem.2 fun i j hi hj _ h0 => ?_, fun a ha b _ _ => hP a ha⟩
      exfalso
      have hb := (mem_del.1 (List.getElem_mem hj)).1
      have hdis : Dis ((doW k h ws z m).drop (srv (doH k h z m) (doW k h ws z m)).length) := p.once.sublist (List.drop_sublist _ _)
      rw [mode_mem hdis hb] at h0
      have := (p.waits _ (List.mem_of_mem_drop hb)).2.2
      omega
    have h2 := List.pairwise_filter.1 key
    refine h2.imp fun {a b} hr h3 h4 => hr ?_ ?_
    · simpa [outQ, ofQ] using h3
    · simpa [outQ, ofQ] using h4
/-- What a change of node z leaves of a queue. -/
structure Chg (z : Int) (ws h2 ws2 T : List Cl) : Prop where
  ok : OkQ h2 ws2
  told : ∀ c ∈ T, modeM h2 c.1 = c.2 ∧ (c.1 ≠ z → modeM ws c.1 = c.2)
  gone : ∀ c ∈ ws, c.1 ≠ z → modeM ws2 c.1 = 0 → modeM h2 c.1 = c.2
  order : ws.Pairwise fun a b => a.1 ≠ z → b.1 ≠ z → modeM ws2 b.1 = 0 → modeM ws2 a.1 = 0
theorem chg_new (k : Op9) {h ws : List Cl} (x : OkQ h ws) (z m : Int) : Chg z ws (newH k h ws z m) (newW k h ws z m) (newT k h ws z m) :=
  ⟨new_ok k x z m, fun _ hc => told_served k x z m hc, fun _ hc hne h0 => gone_served k x z m hc hne h0, nobody_overtaken k x z m⟩
end Go.Proofs.Ytbeoigkjlgimdaa
