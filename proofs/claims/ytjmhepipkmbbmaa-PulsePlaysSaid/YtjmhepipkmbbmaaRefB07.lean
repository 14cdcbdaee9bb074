/- Which nodes the document's pulse tells. -/
import Derived.Test.YtjmhepipkmbbmaaRef07
namespace Go.Proofs.Ytjmhepipkmbbmaa
open Go.RowKit

def thoseB (r : RS) (late : Bool) (k : Nat) : Bool := decide (0 ≤ quietR r (k : Int)) && (!late || quietR r (k : Int) == r.lim)
def thoseR (r : RS) (late : Bool) : List Nat := pick (thoseB r late) 8
set_option maxHeartbeats 1000000 in
theorem ThoseR_any {w : World} {c : Nat} {r : RS} (h : IsR w c r) (hf : Fine r) (late : Bool) :
    Calls Try.prog 19 #[.pointer (some ⟨c, 0, none⟩), .bool late] w (Rowed w (thoseR r late)) := by
  obtain ⟨i0, hi, hz0, hz1, hz2⟩ := info_parts infoI
  obtain ⟨B, HB⟩ : ∃ B, Hid (w.heap.size = B) := ⟨_, Lib.hid rfl⟩
  have Hi := Lib.hid hi
  have Hz0 := Lib.hid hz0
  have Hz1 := Lib.hid hz1
  have Hz2 := Lib.hid hz2
  have Hh := Lib.hid h
  have Hf := Lib.hid hf
  obtain ⟨p, Hp⟩ : ∃ p, Hid (thoseB r late = p) := ⟨_, Lib.hid rfl⟩
  rw [thoseR, Hp.out]
  clear hi hz0 hz1 hz2 h hf
  go_enter Try.func19, Try.ntmps19
  go_wp2
  go_loopw [5, 6] (fun v i wr => ∃ k : Nat, i = .int .i64 (k : Int) ∧ k ≤ 8 ∧ wr.ownsRow B 3 1 v (pick p k).length (cellsI (pick p k)) ∧ Below B w wr) (fun _ i _ => 8 - (intOf i).toNat)
  case atStart => exact ⟨0, rfl, by omega, World.ownsRow_nil _ _ _ _, Below.refl _ _⟩
  case round =>
    obtain ⟨k, rfl, hk, hown, hbel⟩ := hrel
    have Hown := Lib.hid hown
    have Hbel := Lib.hid hbel
    clear hown hbel
    have hle := pick_len p k
    by_cases hlt : k < 8
    · have hlt' : (k : Int) < 8 := by omega
      have He := Lib.hid (pick_succ p k)
      have Hpk : Hid (p k = (decide (0 ≤ quietR r (k : Int)) && (!late || quietR r (k : Int) == r.lim))) := Lib.hid (by rw [← Hp.out]; rfl)
      obtain ⟨zs, Hzs⟩ : ∃ zs, Hid (pick p k = zs) := ⟨_, Lib.hid rfl⟩
      rw [Hzs.out] at He Hown hle
      have Hw1 : Hid (IsR wr c r) := Lib.hid (Hh.out.below (HB.out ▸ Hbel.out))
      obtain ⟨y, Hy⟩ : ∃ y, Hid (quietR r (k : Int) = y) := ⟨_, Lib.hid rfl⟩
      rw [Hy.out] at Hpk
      go_wp2_with fail
      refine (QuietR_any Hw1.out Hf.out (k : Int)).mono ?_
      rw [Hy.out]
      rintro e w1 ⟨rfl, hb1⟩
      have Hown1 := Lib.hid (own_below Hown.out hb1)
      have Hbel1 : Hid (Below B w w1) := Lib.hid (Hbel.out.trans (hb1.mono (by have := Hbel.out.size; have := HB.out; omega)))
      have c3 := (Hw1.out.below hb1).lim
      clear hb1
      obtain ⟨pk, Hpk2⟩ : ∃ pk, Hid (p k = pk) := ⟨_, Lib.hid rfl⟩
      rw [Hpk2.out] at Hpk He
      cases pk with
      | false =>
        by_cases hy : 0 ≤ y
        · have hl : late = true := by have := Hpk.out; simp [hy] at this; exact this.1
          have hne : (y == r.lim) = false := by have := Hpk.out; simp [hy] at this; simpa using this.2
          subst hl
          go_wp2
          go_roundw
          case rel => exact ⟨k + 1, by go_num, by omega, by rw [He.out]; exact Hown1.out, Hbel1.out⟩
          case measure => simp [intOf]; omega
        · go_wp2
          go_roundw
          case rel => exact ⟨k + 1, by go_num, by omega, by rw [He.out]; exact Hown1.out, Hbel1.out⟩
          case measure => simp [intOf]; omega
      | true =>
        have hy : 0 ≤ y := by have := Hpk.out; simp at this; exact this.1
        have hq : late = false ∨ (late = true ∧ (y == r.lim) = true) := by
          have h2 := Hpk.out
          cases late with
          | false => exact .inl rfl
          | true =>
            rw [Bool.not_true, Bool.false_or] at h2
            exact .inr ⟨rfl, (Bool.and_eq_true_iff.1 h2.symm).2⟩
        rcases hq with rfl | ⟨rfl, hq⟩
        all_goals
          go_wp2_with (at_builtin; refine wpList_append_own _ rfl _ _ 36 rfl B 3 i0 (.int .i64 0) 1 8 Try.underlying36 Hi.out Hz0.out Hz1.out Hz2.out rfl (by decide) _ _ _ rfl (Hown1.out.alloc _) ⟨w1.heap.size, 0, none⟩ 1 1 [.int .i64 ((k : Nat) : Int)] rfl rfl ?c1 ?c2 ?c3 ?c4 ?c5 ?_)
          case c1 =>
            intro j u hj
            match j, hj with
            | 0, hj => simp at hj; subst hj; simp [Addr.add, go_sem]
          case c2 => intro u hu; simp at hu; subst hu; rfl
          case c3 => unfold maxLen; omega
          case c4 => omega
          case c5 => have := Hbel1.out.size; have := HB.out; simp; omega
          intro v' w4 hown' hgrow _
          have Hown' := Lib.hid hown'
          have Hbel' := Lib.hid (Below.grown (Hbel1.out.alloc (by have := Hbel1.out.size; have := HB.out; omega) _) hgrow (by have := Hbel1.out.size; have := HB.out; simp; omega) fun r hr => (Hown1.out.lt r hr).1)
          clear hown' hgrow
          go_wp2
          go_roundw
          case rel =>
            refine ⟨k + 1, by go_num, by omega, ?_, Hbel'.out⟩
            rw [He.out, if_pos trivial, List.length_append, cellsI_snoc]
            exact Hown'.out
          case measure => simp [intOf]; omega
    · obtain rfl : k = 8 := by omega
      go_wp2
      go_ret
      exact rowed_of Hown.out HB.out (HB.out ▸ Hbel.out) (by unfold maxLen; omega) (fun z hz => by have := pick_mem hz; omega)

/-- The two pulses say the same. -/
structure Eqv (s : PS) (r : RS) : Prop where
  lim : r.lim = mostP s.lim
  fine : Fine r
  wt : ∀ k, k < 8 → s.wt k = decide (0 ≤ r.at_ k)
  tk : ∀ k, k < 8 → 0 ≤ r.at_ k → s.tk k = min (r.now - r.at_ k) r.lim
theorem eqv_new (l : Int) : Eqv (PS.new l) (RS.new l) := by
  refine ⟨rfl, ⟨Int.le_refl _, show (0 : Int) ≤ 1000 by decide, fun k hk => ?_⟩, fun k hk => ?_, fun k hk h => ?_⟩
  · simp [RS.new, RS.newTo, hk]
  · simp [RS.new, RS.newTo, hk, PS.new]
  · simp [RS.new, RS.newTo, hk] at h
section
variable {s : PS} {r : RS}
theorem eqv_is (h : Eqv s r) (z : Int) : isR r z = setB s z true := by
  rcases node_cases z with ⟨k, hk, rfl⟩ | hn
  · simp [isR, setB, h.wt k hk]
  · simp [isR, setB, hn]
theorem eqv_watchB (h : Eqv s r) (z : Int) : watchB r z = setB s z false := by
  rcases node_cases z with ⟨k, hk, rfl⟩ | hn
  · simp [watchB, isR, setB, h.wt k hk, nodeB_yes hk]
  · simp [watchB, setB, hn]
theorem eqv_quiet (h : Eqv s r) (z : Int) : quietR r z = quietP s z := by
  rcases node_cases z with ⟨k, hk, rfl⟩ | hn
  · rw [quietP_in s hk, quietR, isR_in r hk, h.wt k hk]
    by_cases h0 : 0 ≤ r.at_ k
    · simp [h0, h.tk k hk h0]
    · simp [h0]
  · simp [quietR, quietP, isR, hn]
theorem eqv_put (h : Eqv s r) {k : Nat} (_hk : k < 8) (x : Bool) (v : Int) (hv : (x = true ∧ v = r.now) ∨ (x = false ∧ v = -1)) : Eqv (s.put k x 0) (r.put k v) := by
  have hm := most_le s.lim
  have hl := h.lim
  have hf := h.fine
  refine ⟨h.lim, ⟨hf.now0, hf.now1, fun j hj => ?_⟩, fun j hj => ?_, fun j hj h0 => ?_⟩
  · simp only [RS.put]
    split
    · have := hf.now0; omega
    · exact hf.at0 j hj
  · simp only [PS.put, RS.put]
    split
    · have := hf.now0
      rcases hv with ⟨rfl, rfl⟩ | ⟨rfl, rfl⟩
      · simp [this]
      · simp
    · exact h.wt j hj
  · simp only [PS.put, RS.put] at h0 ⊢
    split
    · rename_i e
      rw [if_pos e] at h0
      rcases hv with ⟨rfl, rfl⟩ | ⟨rfl, rfl⟩ <;> omega
    · rename_i e
      rw [if_neg e] at h0
      exact h.tk j hj h0
theorem eqv_heard (h : Eqv s r) (z : Int) : Eqv (setP s z true true) (setR r z r.now) := by
  have e := eqv_is h z
  rw [setP, setR, e]
  cases hb : setB s z true with
  | false => simpa using h
  | true =>
    rcases node_cases z with ⟨k, hk, rfl⟩ | hn
    · simpa using eqv_put h hk true r.now (.inl ⟨rfl, rfl⟩)
    · simp [setB, hn] at hb
theorem eqv_forget (h : Eqv s r) (z : Int) : Eqv (setP s z true false) (setR r z (-1)) := by
  have e := eqv_is h z
  rw [setP, setR, e]
  cases hb : setB s z true with
  | false => simpa using h
  | true =>
    rcases node_cases z with ⟨k, hk, rfl⟩ | hn
    · simpa using eqv_put h hk false (-1) (.inr ⟨rfl, rfl⟩)
    · simp [setB, hn] at hb
theorem eqv_watch (h : Eqv s r) (z : Int) : Eqv (setP s z false true) (watchR r z) := by
  have e := eqv_watchB h z
  rw [setP, watchR, e]
  cases hb : setB s z false with
  | false => simpa using h
  | true =>
    rcases node_cases z with ⟨k, hk, rfl⟩ | hn
    · simpa using eqv_put h hk true r.now (.inl ⟨rfl, rfl⟩)
    · simp [setB, hn] at hb
def tickR (r : RS) : RS := ⟨r.lim, r.now + 1, r.at_⟩
theorem eqv_tick (h : Eqv s r) (hn : r.now < 1000) : Eqv (tickP s) (tickR r) := by
  have hf := h.fine
  refine ⟨h.lim, ⟨?_, ?_, fun k hk => ?_⟩, h.wt, fun k hk h0 => ?_⟩
  · have := hf.now0; simp only [tickR]; omega
  · simp only [tickR]; omega
  · have := hf.at0 k hk; simp only [tickR]; omega
  · simp only [tickR] at h0 ⊢
    simp only [tickP, tickTo, if_pos hk, h.tk k hk h0, ← h.lim]
    omega
theorem eqv_late (h : Eqv s r) : lateL s = thoseR r true := by
  unfold lateL thoseR
  refine pick_congr fun k hk => ?_
  rw [thoseB, eqv_quiet h, quietP_in s hk, h.lim]
  have hm := most_le s.lim
  cases hb : s.wt k with
  | false => simp
  | true =>
    have h0 : 0 ≤ r.at_ k := by have := h.wt k hk; rw [hb] at this; simpa using this.symm
    have ht := h.tk k hk h0
    have h1 := h.fine.at0 k hk
    have hl := h.lim
    simp
    intro _
    omega
theorem eqv_all (h : Eqv s r) : allL s = thoseR r false := by
  unfold allL thoseR
  refine pick_congr fun k hk => ?_
  rw [thoseB, eqv_quiet h, quietP_in s hk]
  have hm := most_le s.lim
  cases hb : s.wt k with
  | false => simp
  | true =>
    have h0 : 0 ≤ r.at_ k := by have := h.wt k hk; rw [hb] at this; simpa using this.symm
    have ht := h.tk k hk h0
    have h1 := h.fine.at0 k hk
    have hl := h.lim
    simp
    omega
end
end Go.Proofs.Ytjmhepipkmbbmaa
