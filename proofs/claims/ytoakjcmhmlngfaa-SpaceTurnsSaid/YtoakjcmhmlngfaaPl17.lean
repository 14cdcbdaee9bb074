/- PLAIN: maps of zones: which are right, what is free, what is taken and given. -/
import Derived.Test.YtoakjcmhmlngfaaLz13
import Derived.Test.YtoakjcmhmlngfaaGs11
namespace Go.Proofs.Ytoakjcmhmlngfaa
open Go.RowKit

def encT (s : List UInt8) : List Value := [.string (str s)]
theorem encT_ok : Enc 1 encT := ⟨fun _ => rfl, by intro a u hu; simp [encT] at hu; subst hu; rfl, by decide⟩
def encI (x : Int) : List Value := [.int .i64 x]
theorem encI_ok : Enc 1 encI := ⟨fun _ => rfl, by intro a u hu; simp [encI] at hu; subst hu; rfl, by decide⟩
theorem tInf : Inf 26 9 1 16 := by
  refine ⟨Try.underlying26, ?_⟩
  obtain ⟨i, hi, hz, hs, hb⟩ := info_parts (show (Try.prog.info? 9).map (fun i => (i.zero, i.size, i.bytes)) = some (some (.string (str [])), 1, 16) by kernel_rfl)
  exact ⟨i, _, hi, hz, hs, hb, rfl⟩
theorem iInf : Inf 30 3 1 8 := by
  refine ⟨Try.underlying30, ?_⟩
  obtain ⟨i, hi, hz, hs, hb⟩ := info_parts (show (Try.prog.info? 3).map (fun i => (i.zero, i.size, i.bytes)) = some (some (.int .i64 0), 1, 8) by kernel_rfl)
  exact ⟨i, _, hi, hz, hs, hb, rfl⟩
theorem t_one (w : World) (z : List UInt8) : IsG (w.alloc (.cells #[.string (str z)] 9)) 1 encT (some ⟨w.heap.size, 0, none⟩) 1 [z] :=
  IsG.one (by simp) (fun j u hj => match j, hj with
    | 0, hj => by simp [encT] at hj; subst hj; simp [go_sem]
    | j + 1, hj => by simp [encT] at hj)
theorem i_one (w : World) (x : Int) : IsG (w.alloc (.cells #[.int .i64 x] 3)) 1 encI (some ⟨w.heap.size, 0, none⟩) 1 [x] :=
  IsG.one (by simp) (fun j u hj => match j, hj with
    | 0, hj => by simp [encI] at hj; subst hj; simp [go_sem]
    | j + 1, hj => by simp [encI] at hj)

/-! ### one map -/
def goodM (z : Int) (s : List UInt8) : Bool := rightB s z && (Bm.bitI s 0 && Bm.bitI s 1)
structure Good (z : Nat) (s : List UInt8) : Prop where
  len : s.length = size (z : Int)
  z4 : z ≤ 4000
  no : ∀ i, z ≤ i → Bm.bit s i = false
  b0 : Bm.bit s 0 = true
  b1 : Bm.bit s 1 = true
theorem size_z (z : Nat) (h : z ≤ 4000) : z ≤ 8 * size (z : Int) := by unfold size; omega
theorem good_of {z : Nat} {s : List UInt8} (h : goodM (z : Int) s = true) : Good z s := by
  simp only [goodM, rightB, Bool.and_eq_true, decide_eq_true_eq] at h
  obtain ⟨⟨⟨⟨_, h2⟩, h3⟩, h4⟩, h5, h6⟩ := h
  have hz : ((z : Int)).toNat = z := by omega
  rw [hz] at h4
  refine ⟨h3, by omega, fun i hi => ?_, by simpa [Bm.bitI] using h5, by simpa [Bm.bitI] using h6⟩
  rcases Bm.next_cases s z true with ⟨_, hall⟩ | ⟨k, hk, _⟩
  · by_cases hl : i < 8 * s.length
    · simpa using hall i hi hl
    · exact Bm.bit_out (by omega)
  · rw [hk] at h4; omega
theorem good_iff {z : Nat} {s : List UInt8} : goodM (z : Int) s = true ↔ Good z s := by
  refine ⟨good_of, fun h => ?_⟩
  have hz : ((z : Int)).toNat = z := by omega
  have h4 := h.z4
  simp only [goodM, rightB, Bool.and_eq_true, decide_eq_true_eq, hz]
  refine ⟨⟨⟨⟨by omega, by omega⟩, h.len⟩, ?_⟩, by simpa [Bm.bitI] using h.b0, by simpa [Bm.bitI] using h.b1⟩
  rw [Bm.next_none (fun j hj _ => by rw [h.no j hj]; simp)]
  omega
/-- What is free of a map, by rising places. -/
def frees (s : List UInt8) (z : Nat) : List Nat := (List.range z).filter fun k => !Bm.bit s k
theorem mem_frees {s : List UInt8} {z k : Nat} : k ∈ frees s z ↔ k < z ∧ Bm.bit s k = false := by simp [frees]
theorem frees_rise (s : List UInt8) (z : Nat) : (frees s z).Pairwise (· < ·) := List.Pairwise.filter _ List.pairwise_lt_range
theorem frees_count (s : List UInt8) (z : Nat) : (frees s z).length + (Bm.upto s z).length = z := by
  induction z with
  | zero => simp [frees, Bm.upto]
  | succ z ih =>
    rw [Bm.upto_succ]
    unfold frees at *
    rw [List.range_succ, List.filter_append]
    cases h : Bm.bit s z <;> simp [h] <;> omega
theorem count_good {z : Nat} {s : List UInt8} (h : Good z s) : Bm.count s = (Bm.upto s z).length := by
  have h1 := size_z z h.z4
  rw [← h.len] at h1
  unfold Bm.count Bm.each
  obtain ⟨d, hd⟩ : ∃ d, 8 * s.length = z + d := ⟨8 * s.length - z, by omega⟩
  rw [hd, Bm.upto_skip s z d (fun j hj _ => h.no j hj)]
def setAll (s : List UInt8) (ps : List Nat) : List UInt8 := ps.foldl (fun s p => Bm.set s p true) s
theorem setAll_snoc (s : List UInt8) (ps : List Nat) (p : Nat) : setAll s (ps ++ [p]) = Bm.set (setAll s ps) p true := by simp [setAll]
theorem setAll_length (s : List UInt8) (ps : List Nat) : (setAll s ps).length = s.length := by
  induction ps generalizing s with
  | nil => rfl
  | cons p ps ih => show (setAll (Bm.set s p true) ps).length = _; rw [ih, Bm.set_length]
theorem bit_setAll {s : List UInt8} {ps : List Nat} (h : ∀ p ∈ ps, p < 8 * s.length) (k : Nat) : Bm.bit (setAll s ps) k = (Bm.bit s k || decide (k ∈ ps)) := by
  induction ps generalizing s with
  | nil => simp [setAll]
  | cons p ps ih =>
    have h0 := h p (by simp)
    show Bm.bit (setAll (Bm.set s p true) ps) k = _
    rw [ih (fun q hq => by rw [Bm.set_length]; exact h q (by simp [hq])), Bm.bit_set]
    by_cases e : k = p
    · subst e; simp [h0]
    · simp [e]
/-- The next free place, behind those that were taken already. -/
theorem next_free_at {z : Nat} {s : List UInt8} (h : Good z s) (t pl : Nat) (ht : t ≤ (frees s z).length) (hpl : (t = 0 ∧ pl ≤ 2) ∨ ∃ t', t = t' + 1 ∧ (frees s z)[t']? = some pl) :
    (∀ p, (frees s z)[t]? = some p → Bm.next (setAll s ((frees s z).take t)) pl false = (p : Int)) ∧ (t = (frees s z).length → Bm.next (setAll s ((frees s z).take t)) pl false < 0 ∨ (z : Int) ≤ Bm.next (setAll s ((frees s z).take t)) pl false) := by
  have hin : ∀ p ∈ frees s z, p < 8 * s.length := fun p hp => by
    have := (mem_frees.1 hp).1
    have := size_z z h.z4
    rw [h.len]; omega
  have hbit : ∀ k, Bm.bit (setAll s ((frees s z).take t)) k = (Bm.bit s k || decide (k ∈ (frees s z).take t)) := bit_setAll (fun p hp => hin p (List.mem_of_mem_take hp))
  have hlen := setAll_length s ((frees s z).take t)
  have hge : ∀ k, k ∈ frees s z → k ∉ (frees s z).take t → pl ≤ k := by
    intro k hk hn
    rcases hpl with ⟨_, h2⟩ | ⟨t', rfl, h2⟩
    · have hb := (mem_frees.1 hk).2
      have : k ≠ 0 := fun e => by rw [e, h.b0] at hb; cases hb
      have : k ≠ 1 := fun e => by rw [e, h.b1] at hb; cases hb
      omega
    · obtain ⟨i, hi, rfl⟩ := List.getElem_of_mem hk
      obtain ⟨ht', e⟩ := List.getElem?_eq_some_iff.1 h2
      have hit : ¬ i < t' + 1 := fun hlt => hn (by
        rw [List.mem_take_iff_getElem]
        exact ⟨i, by omega, rfl⟩)
      rw [← e]
      have := List.pairwise_iff_getElem.1 (frees_rise s z) t' i ht' hi (by omega)
      omega
  constructor
  · intro p hp
    obtain ⟨htl, e⟩ := List.getElem?_eq_some_iff.1 hp
    have hpm : p ∈ frees s z := List.mem_of_getElem? hp
    have hpn : p ∉ (frees s z).take t := by
      intro hm
      rw [List.mem_take_iff_getElem] at hm
      obtain ⟨i, hi, e2⟩ := hm
      have := List.pairwise_iff_getElem.1 (frees_rise s z) i t (by omega) htl (by omega)
      omega
    refine Bm.next_some (hge p hpm hpn) (by rw [hlen]; exact hin p hpm) ?_ (fun j hj hjp => ?_)
    · rw [hbit, (mem_frees.1 hpm).2]; simp [hpn]
    · rw [hbit]
      cases hb : Bm.bit s j with
      | true => simp
      | false =>
        have hjm : j ∈ frees s z := mem_frees.2 ⟨by have := (mem_frees.1 hpm).1; omega, hb⟩
        obtain ⟨i, hi, rfl⟩ := List.getElem_of_mem hjm
        have hit : i < t := by
          rcases Nat.lt_or_ge i t with h1 | h1
          · exact h1
          · rcases Nat.eq_or_lt_of_le h1 with h2 | h2
            · subst h2; omega
            · have := List.pairwise_iff_getElem.1 (frees_rise s z) t i htl hi h2
              omega
        have : (frees s z)[i] ∈ (frees s z).take t := by
          rw [List.mem_take_iff_getElem]
          exact ⟨i, by omega, rfl⟩
        simp [this]
  · intro e
    rcases Bm.next_cases (setAll s ((frees s z).take t)) pl false with ⟨h1, _⟩ | ⟨k, h1, _, hk, hb, _⟩
    · left; rw [h1]; omega
    · right
      rw [h1]
      rcases Nat.lt_or_ge k z with h2 | h2
      · rw [hbit, e, List.take_length] at hb
        simp only [Bool.or_eq_false_iff, decide_eq_false_iff_not] at hb
        exact absurd (mem_frees.2 ⟨h2, hb.1⟩) hb.2
      · omega
/-- A map out of which places were taken is right still. -/
theorem Good.taken {z : Nat} {s : List UInt8} (h : Good z s) {ps : List Nat} (hp : ∀ p ∈ ps, p < z) : Good z (setAll s ps) := by
  have hin : ∀ p ∈ ps, p < 8 * s.length := fun p hm => by
    have := hp p hm
    have := size_z z h.z4
    rw [h.len]; omega
  refine ⟨by rw [setAll_length]; exact h.len, h.z4, fun i hi => ?_, by rw [bit_setAll hin, h.b0]; rfl, by rw [bit_setAll hin, h.b1]; rfl⟩
  rw [bit_setAll hin, h.no i hi]
  simp
  intro hm
  have := hp i hm
  omega
theorem Good.given {z : Nat} {s : List UInt8} (h : Good z s) {p : Nat} (hp : 2 ≤ p) : Good z (Bm.set s p false) := by
  refine ⟨by rw [Bm.set_length]; exact h.len, h.z4, fun i hi => ?_, ?_, ?_⟩
  · rw [Bm.bit_set]; split
    · rfl
    · exact h.no i hi
  · rw [Bm.bit_set, if_neg (by omega)]; exact h.b0
  · rw [Bm.bit_set, if_neg (by omega)]; exact h.b1

/-! ### all four -/
def rightM (l : Lay) (M : List (List UInt8)) : Bool := layOk l && (decide (M.length = 4) && M.all (goodM l.z))
def zN (l : Lay) : Nat := l.z.toNat
structure RightM (l : Lay) (M : List (List UInt8)) : Prop where
  ok : layOk l = true
  four : M.length = 4
  good : ∀ s ∈ M, Good (zN l) s
theorem zN_of {l : Lay} (h : layOk l = true) : l.z = (zN l : Int) ∧ 3 ≤ zN l ∧ zN l ≤ 4000 := by
  have := (LayOk.of h).z3
  unfold zN
  omega
theorem rightM_iff {l : Lay} {M : List (List UInt8)} : rightM l M = true ↔ RightM l M := by
  simp only [rightM, Bool.and_eq_true, decide_eq_true_eq, List.all_eq_true]
  constructor
  · rintro ⟨h1, h2, h3⟩
    refine ⟨h1, h2, fun s hs => ?_⟩
    have := h3 s hs
    rw [(zN_of h1).1] at this
    exact good_of this
  · rintro ⟨h1, h2, h3⟩
    refine ⟨h1, h2, fun s hs => ?_⟩
    rw [(zN_of h1).1]
    exact good_iff.2 (h3 s hs)
def takenN (M : List (List UInt8)) : Nat := (M.map Bm.count).sum
def freeM (l : Lay) (M : List (List UInt8)) : Int := if rightM l M then 4 * l.z - takenN M else 0
theorem Good.count_le {z : Nat} {s : List UInt8} (h : Good z s) : Bm.count s ≤ z := by
  rw [count_good h]; have := frees_count s z; omega
def takenM (l : Lay) (M : List (List UInt8)) (x : Int) : Bool := rightM l M && (decide (0 ≤ (layZP l x).1) && Bm.bitI (M.getD (layZP l x).1.toNat []) (layZP l x).2)
/-! ### taking -/
def takeStep (l : Lay) (n zone : Nat) (st : List (List UInt8) × List Int) (i : Nat) : List (List UInt8) × List Int :=
  (st.1.set ((zone + i) % 4) (setAll (st.1.getD ((zone + i) % 4) []) ((frees (st.1.getD ((zone + i) % 4) []) (zN l)).take (n - st.2.length))),
    st.2 ++ ((frees (st.1.getD ((zone + i) % 4) []) (zN l)).take (n - st.2.length)).map fun (p : Nat) => l.f + ((zone + i) % 4 : Nat) * l.z + p)
def takeUp (l : Lay) (M : List (List UInt8)) (zone n k : Nat) : List (List UInt8) × List Int := (List.range k).foldl (takeStep l n zone) (M, [])
theorem takeUp_succ (l : Lay) (M : List (List UInt8)) (zone n k : Nat) : takeUp l M zone n (k + 1) = takeStep l n zone (takeUp l M zone n k) k := by
  unfold takeUp; rw [List.range_succ, List.foldl_append]; rfl
theorem takeUp_right {l : Lay} {M : List (List UInt8)} (h : RightM l M) (zone n : Nat) : ∀ k, RightM l (takeUp l M zone n k).1
  | 0 => h
  | k + 1 => by
    have ih := takeUp_right h zone n k
    rw [takeUp_succ]
    obtain ⟨st1, hst⟩ : ∃ x, (takeUp l M zone n k).1 = x := ⟨_, rfl⟩
    unfold takeStep
    rw [hst] at ih ⊢
    have hlt : (zone + k) % 4 < st1.length := by rw [ih.four]; omega
    have hg : Good (zN l) (st1.getD ((zone + k) % 4) []) := by
      rw [List.getD_eq_getElem?_getD, List.getElem?_eq_getElem hlt]
      exact ih.good _ (List.getElem_mem hlt)
    refine ⟨ih.ok, by rw [List.length_set]; exact ih.four, fun s hs => ?_⟩
    rcases List.mem_or_eq_of_mem_set hs with hs | rfl
    · exact ih.good s hs
    · exact hg.taken fun p hp => (mem_frees.1 (List.mem_of_mem_take hp)).1
theorem takeUp_len (l : Lay) (M : List (List UInt8)) (zone n : Nat) : ∀ k, (takeUp l M zone n k).2.length ≤ n
  | 0 => Nat.zero_le _
  | k + 1 => by
    have ih := takeUp_len l M zone n k
    rw [takeUp_succ]
    unfold takeStep
    simp
    omega
def takeOk (l : Lay) (M : List (List UInt8)) (zone n : Int) : Bool := rightM l M && (decide (0 ≤ zone) && (decide (zone < 4) && (decide (0 ≤ n) && decide (n ≤ freeM l M))))
/-! ### giving -/
def giveTo (l : Lay) (M : List (List UInt8)) : List Int → Option (List (List UInt8))
  | [] => some M
  | x :: xs => if 2 ≤ (layZP l x).2 ∧ Bm.bitI (M.getD (layZP l x).1.toNat []) (layZP l x).2 = true then giveTo l (M.set (layZP l x).1.toNat (Bm.set (M.getD (layZP l x).1.toNat []) (layZP l x).2.toNat false)) xs else none
end Go.Proofs.Ytoakjcmhmlngfaa
