/- Plain: how many are taken and given; of which zone they are. -/
import Derived.Test.YtoakjcmhmlngfaaPo17
namespace Go.Proofs.Ytoakjcmhmlngfaa
open Go.RowKit

theorem Owe.trans {l : Lay} {A M N : List (List UInt8)} {R S : List Int} (hA : RightM l A) (h1 : Owe l A M R) (h2 : Owe l M N S) : Owe l A N (R ++ S) := by
  refine ⟨h2.right, fun z p s t hs ht hp => ?_, fun x hx => ?_, ?_⟩
  · have hz : z < 4 := by
      obtain ⟨a, _⟩ := List.getElem?_eq_some_iff.1 hs
      rw [hA.four] at a; exact a
    obtain ⟨m, hm⟩ : ∃ m, M[z]? = some m := ⟨_, List.getElem?_eq_getElem (by rw [h1.right.four]; exact hz)⟩
    rw [h2.bits z p m t hm ht hp, h1.bits z p s m hs hm hp, Bool.or_assoc]
    congr 1
    by_cases a : secT l z p ∈ R <;> by_cases b : secT l z p ∈ S <;> simp [a, b]
  · rcases List.mem_append.1 hx with hx | hx
    · exact h1.free x hx
    · obtain ⟨z, p, m, rfl, hz, hp2, hp, hm, hb⟩ := h2.free x hx
      obtain ⟨s, hs⟩ : ∃ s, A[z]? = some s := ⟨_, List.getElem?_eq_getElem (by rw [hA.four]; exact hz)⟩
      have := h1.bits z p s m hs hm hp
      rw [hb] at this
      exact ⟨z, p, s, rfl, hz, hp2, hp, hs, (Bool.or_eq_false_iff.1 this.symm).1⟩
  · refine List.nodup_append.2 ⟨h1.nodup, h2.nodup, fun a ha b hb => ?_⟩
    rintro rfl
    obtain ⟨z, p, m, rfl, hz, hp2, hp, hm, hb'⟩ := h2.free a hb
    obtain ⟨s, hs⟩ : ∃ s, A[z]? = some s := ⟨_, List.getElem?_eq_getElem (by rw [hA.four]; exact hz)⟩
    have := h1.bits z p s m hs hm hp
    rw [hb', decide_eq_true ha] at this
    simp at this
theorem takenN_set {M : List (List UInt8)} {z : Nat} {s t : List UInt8} (h : M[z]? = some s) : takenN (M.set z t) + Bm.count s = takenN M + Bm.count t := by
  induction M generalizing z with
  | nil => cases h
  | cons a M ih =>
    cases z with
    | zero => simp at h; subst h; simp [takenN]; omega
    | succ z =>
      have := ih (z := z) (by simpa using h)
      simp [takenN] at this ⊢
      omega
theorem free_given {l : Lay} {N N' : List (List UInt8)} {x : Int} (hN : RightM l N) (h : giveTo l N [x] = some N') : freeM l N' = freeM l N + 1 := by
  have hN' := giveTo_step hN h
  rw [giveTo] at h
  split at h
  · rename_i hc
    obtain rfl := Option.some.inj h
    obtain ⟨z, hz⟩ : ∃ z, (layZP l x).1.toNat = z := ⟨_, rfl⟩
    obtain ⟨p, hp⟩ : ∃ p, (layZP l x).2 = p := ⟨_, rfl⟩
    rw [hz, hp] at hc hN' ⊢
    obtain ⟨q, rfl⟩ := Int.eq_ofNat_of_zero_le (show 0 ≤ p by omega)
    rw [Int.toNat_natCast] at hN' ⊢
    rw [Bm.bitI_nat] at hc
    obtain ⟨s, hs⟩ : ∃ s, N[z]? = some s := by
      cases e : N[z]? with
      | some s => exact ⟨s, rfl⟩
      | none =>
        rw [List.getD_eq_getElem?_getD, e] at hc
        have := hc.2
        rw [show (none : Option (List UInt8)).getD [] = [] from rfl, Bm.bit_out (by simp)] at this
        cases this
    have e1 : N.getD z [] = s := by rw [List.getD_eq_getElem?_getD, hs]; rfl
    rw [e1] at hc hN' ⊢
    have hq : q < 8 * s.length := by
      rcases Nat.lt_or_ge q (8 * s.length) with h | h
      · exact h
      · rw [Bm.bit_out h] at hc; cases hc.2
    have h1 := Bm.count_set_false hq hc.2
    have h2 := takenN_set (t := Bm.set s q false) hs
    rw [freeM, freeM, rightM_iff.2 hN, rightM_iff.2 hN', if_pos rfl, if_pos rfl]
    omega
  · cases h
theorem Owe.count {l : Lay} {M : List (List UInt8)} (hM : RightM l M) : ∀ (n : Nat) {N : List (List UInt8)} {R : List Int}, R.length = n → Owe l M N R → freeM l N + n = freeM l M
  | 0, N, R, hn, h => by
    obtain rfl := List.eq_nil_of_length_eq_zero hn
    rw [h.nil hM]; simp
  | n + 1, N, R, hn, h => by
    obtain ⟨x, hx⟩ : ∃ x, x ∈ R := by
      cases R with
      | nil => cases hn
      | cons a R => exact ⟨a, by simp⟩
    obtain ⟨N', h1, h2⟩ := h.give hM hx
    have h3 := Owe.count hM n (by rw [List.length_erase_of_mem hx, hn]; rfl) h2
    have h4 := free_given h.right h1
    push_cast
    omega
theorem frees_all {z : Nat} {t : List UInt8} (h : Good z t) : frees (setAll t (frees t z)) z = [] := by
  have hin : ∀ q ∈ frees t z, q < 8 * t.length := fun q hq => by
    have := (mem_frees.1 hq).1
    have := size_z z h.z4
    rw [h.len]; omega
  refine List.eq_nil_iff_forall_not_mem.2 fun k hk => ?_
  obtain ⟨h1, h2⟩ := mem_frees.1 hk
  rw [bit_setAll hin, Bool.or_eq_false_iff] at h2
  exact absurd (mem_frees.2 ⟨h1, h2.1⟩) (by simpa using h2.2)
theorem four_list {N : List (List UInt8)} (h : N.length = 4) : ∃ a b c d, N = [a, b, c, d] := by
  match N, h with
  | [a, b, c, d], _ => exact ⟨a, b, c, d, rfl⟩
theorem free_none {l : Lay} {N : List (List UInt8)} (h : RightM l N) (hf : ∀ z, z < 4 → frees (N.getD z []) (zN l) = []) : freeM l N = 0 := by
  rw [freeM, rightM_iff.2 h, if_pos rfl]
  obtain ⟨a, b, c, d, rfl⟩ := four_list h.four
  have key : ∀ s ∈ [a, b, c, d], frees s (zN l) = [] → Bm.count s = zN l := fun s hs e => by
    rw [count_good (h.good s hs)]
    have := frees_count s (zN l)
    rw [e] at this
    simpa using this
  have ka := key a (by simp) (hf 0 (by omega))
  have kb := key b (by simp) (hf 1 (by omega))
  have kc := key c (by simp) (hf 2 (by omega))
  have kd := key d (by simp) (hf 3 (by omega))
  have hz := (zN_of h.ok).1
  simp only [takenN, List.map_cons, List.map_nil, List.sum_cons, List.sum_nil, ka, kb, kc, kd]
  omega
theorem takeUp_fill {l : Lay} {M : List (List UInt8)} (hM : RightM l M) (zn nn : Nat) : ∀ k, k ≤ 4 → (takeUp l M zn nn k).2.length = nn ∨ ∀ i, i < k → frees ((takeUp l M zn nn k).1.getD ((zn + i) % 4) []) (zN l) = []
  | 0, _ => .inr (fun i hi => by omega)
  | k + 1, hk => by
    have ih := takeUp_fill hM zn nn k (by omega)
    have hr := takeUp_right hM zn nn k
    have hl := takeUp_len l M zn nn k
    rw [takeUp_succ]
    obtain ⟨N, hN⟩ : ∃ x, (takeUp l M zn nn k).1 = x := ⟨_, rfl⟩
    obtain ⟨S, hS⟩ : ∃ x, (takeUp l M zn nn k).2 = x := ⟨_, rfl⟩
    unfold takeStep
    rw [hN, hS] at ih ⊢
    rw [hN] at hr
    rw [hS] at hl
    obtain ⟨z, hz⟩ : ∃ z, (zn + k) % 4 = z := ⟨_, rfl⟩
    rw [hz]
    have hz4 : z < N.length := by rw [hr.four]; omega
    have ht : N[z]? = some N[z] := List.getElem?_eq_getElem hz4
    have gt := hr.good _ (List.getElem_mem hz4)
    obtain ⟨t, et⟩ : ∃ t, N[z] = t := ⟨_, rfl⟩
    rw [et] at ht gt
    have e1 : N.getD z [] = t := by rw [List.getD_eq_getElem?_getD, ht]; rfl
    rw [e1]
    by_cases hf : nn - S.length ≤ (frees t (zN l)).length
    · left
      rw [List.length_append, List.length_map, List.length_take]
      omega
    · right
      intro i hi
      have ih := ih.resolve_left (by omega)
      rw [List.take_of_length_le (by omega)]
      by_cases e : i = k
      · subst e
        rw [hz, List.getD_eq_getElem?_getD, List.getElem?_set_self hz4]
        exact frees_all gt
      · rw [List.getD_eq_getElem?_getD, List.getElem?_set_ne (by omega), ← List.getD_eq_getElem?_getD]
        exact ih i (by omega)
theorem takeUp_all {l : Lay} {M : List (List UInt8)} (hM : RightM l M) (zn nn : Nat) (hn : (nn : Int) ≤ freeM l M) : (takeUp l M zn nn 4).2.length = nn := by
  rcases takeUp_fill hM zn nn 4 (Nat.le_refl _) with h | h
  · exact h
  · have h1 := takeUp_owe hM zn nn 4
    have h2 := Owe.count hM _ rfl h1
    have h3 := free_none h1.right (fun z hz => by
      have e : (zn + (z + 4 - zn % 4) % 4) % 4 = z := by omega
      rw [← e]; exact h _ (by omega))
    have h4 := takeUp_len l M zn nn 4
    omega
theorem takeOk_eq {l : Lay} {M : List (List UInt8)} (hM : RightM l M) {z k : Nat} (hz : z < 4) : takeOk l M (z : Int) (k : Int) = decide ((k : Int) ≤ freeM l M) := by
  rw [takeOk, rightM_iff.2 hM, decide_eq_true (by omega : (0 : Int) ≤ (z : Int)), decide_eq_true (by omega : (z : Int) < 4), decide_eq_true (by omega : (0 : Int) ≤ (k : Int))]
  simp
theorem taken_sec {l : Lay} {N : List (List UInt8)} {s : List UInt8} (hN : RightM l N) {z p : Nat} (hz : z < 4) (hp : p < zN l) (hs : N[z]? = some s) : takenM l N (secT l z p) = Bm.bit s p := by
  rw [takenM, rightM_iff.2 hN, zp_sec hN.ok hz hp]
  simp [Bm.bitI_nat, List.getD_eq_getElem?_getD, hs]
theorem Owe.turned {l : Lay} {M N : List (List UInt8)} {S : List Int} (hM : RightM l M) (h : Owe l M N S) {x : Int} (hx : x ∈ S) : takenM l M x = false ∧ takenM l N x = true := by
  obtain ⟨z, p, s, rfl, hz, _, hp, hs, hb⟩ := h.free x hx
  obtain ⟨t, ht⟩ : ∃ t, N[z]? = some t := ⟨_, List.getElem?_eq_getElem (by rw [h.right.four]; exact hz)⟩
  rw [taken_sec hM hz hp hs, taken_sec h.right hz hp ht, hb, h.bits z p s t hs ht hp, decide_eq_true hx]
  simp
theorem free_le {l : Lay} {M : List (List UInt8)} : freeM l M ≤ 16000 := by
  rw [freeM]
  split
  · rename_i h
    have := zN_of (rightM_iff.1 h).ok
    omega
  · omega
theorem free_ge {l : Lay} {M : List (List UInt8)} (hM : RightM l M) : 0 ≤ freeM l M := by
  rw [freeM, rightM_iff.2 hM, if_pos rfl]
  obtain ⟨a, b, c, d, rfl⟩ := four_list hM.four
  have ka := (hM.good a (by simp)).count_le
  have kb := (hM.good b (by simp)).count_le
  have kc := (hM.good c (by simp)).count_le
  have kd := (hM.good d (by simp)).count_le
  have hz := (zN_of hM.ok).1
  simp only [takenN, List.map_cons, List.map_nil, List.sum_cons, List.sum_nil]
  omega
/-! ### of which zone -/
def inZ (l : Lay) (z : Nat) (x : Int) : Bool := decide ((layZP l x).1 = (z : Int))
def nIn (l : Lay) (z : Nat) (S : List Int) (i : Nat) : Nat := ((S.take i).filter (inZ l z)).length
theorem nIn_succ {l : Lay} {z : Nat} {S : List Int} {i : Nat} {x : Int} (h : S[i]? = some x) : nIn l z S (i + 1) = nIn l z S i + if (layZP l x).1 = (z : Int) then 1 else 0 := by
  unfold nIn
  rw [List.take_add_one, h, List.filter_append, List.length_append]
  congr 1
  by_cases e : (layZP l x).1 = (z : Int) <;> simp [inZ, e]
theorem nIn_le (l : Lay) (z : Nat) (S : List Int) (i : Nat) : nIn l z S i ≤ i := by
  unfold nIn
  exact Nat.le_trans (List.length_filter_le _ _) (by simp; omega)
def nFree (s : List UInt8) (j : Nat) : Nat := (frees s j).length
theorem nFree_succ (s : List UInt8) (j : Nat) : nFree s (j + 1) = nFree s j + if Bm.bit s j = true then 0 else 1 := by
  unfold nFree frees
  rw [List.range_succ, List.filter_append, List.length_append]
  congr 1
  cases h : Bm.bit s j <;> simp [h]
theorem nFree_le (s : List UInt8) (j : Nat) : nFree s j ≤ j := by
  have := frees_count s j
  unfold nFree
  omega
theorem in_map {l : Lay} (hk : layOk l = true) {z z' : Nat} (hz' : z' < 4) {ps : List Nat} (h : ∀ p ∈ ps, p < zN l) : (ps.map fun (p : Nat) => l.f + (z' : Nat) * l.z + p).filter (inZ l z) = if z' = z then ps.map fun (p : Nat) => l.f + (z' : Nat) * l.z + p else [] := by
  have key : ∀ p ∈ ps, layZP l (l.f + (z' : Nat) * l.z + p) = ((z' : Int), (p : Int)) := fun p hp => zp_sec hk hz' (h p hp)
  split
  · rename_i e
    subst e
    refine List.filter_eq_self.2 fun x hx => ?_
    obtain ⟨p, hp, rfl⟩ := List.mem_map.1 hx
    simp [inZ, key p hp]
  · rename_i e
    refine List.filter_eq_nil_iff.2 fun x hx => ?_
    obtain ⟨p, hp, rfl⟩ := List.mem_map.1 hx
    simp [inZ, key p hp]
    omega
theorem zone_take {l : Lay} {M : List (List UInt8)} (hM : RightM l M) {zn nn : Nat} (hz : zn < 4) : ∀ k, k < 4 → ((takeUp l M zn nn (k + 1)).2.filter (inZ l zn)).length = min nn (frees (M.getD zn []) (zN l)).length
  | 0, _ => by
    rw [takeUp_succ]
    show (([] ++ ((frees (M.getD ((zn + 0) % 4) []) (zN l)).take (nn - 0)).map fun (p : Nat) => l.f + ((zn + 0) % 4 : Nat) * l.z + p).filter (inZ l zn)).length = _
    rw [show (zn + 0) % 4 = zn by omega, List.nil_append, in_map hM.ok hz (fun p hp => (mem_frees.1 (List.mem_of_mem_take hp)).1), if_pos rfl, List.length_map, List.length_take]
    rfl
  | k + 1, hk => by
    have ih := zone_take hM (nn := nn) hz k (by omega)
    rw [takeUp_succ, takeStep]
    rw [List.filter_append, List.length_append, ih, in_map hM.ok (by omega) (fun p hp => (mem_frees.1 (List.mem_of_mem_take hp)).1), if_neg (by omega)]
    rfl
theorem nIn_take {l : Lay} {M : List (List UInt8)} (hM : RightM l M) {zn nn : Nat} (hz : zn < 4) {s : List UInt8} (hs : M[zn]? = some s) : nIn l zn (takeUp l M zn nn 4).2 (takeUp l M zn nn 4).2.length = min nn (nFree s (zN l)) := by
  unfold nIn
  rw [List.take_length, zone_take hM hz 3 (by omega), List.getD_eq_getElem?_getD, hs]
  rfl
end Go.Proofs.Ytoakjcmhmlngfaa
