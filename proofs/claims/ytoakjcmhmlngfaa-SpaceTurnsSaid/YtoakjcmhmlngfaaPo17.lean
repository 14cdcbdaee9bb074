/- What was taken and is given back, in whatever order: the maps are as they were. Plain. -/
import Derived.Test.YtoakjcmhmlngfaaGv17
namespace Go.Proofs.Ytoakjcmhmlngfaa
open Go.RowKit

theorem zp_none17 {l : Lay} (hk : layOk l = true) {x : Int} (h : layZP l x = (-1, -1)) : x < l.f ∨ l.f + 4 * l.z ≤ x := by
  rw [layZP, if_pos hk] at h
  obtain ⟨z0, z1, z2⟩ := (LayOk.of hk).z3
  have key : ∀ z : Nat, (((z : Nat) : Int), x - (l.f + (z : Int) * l.z)) = ((-1 : Int), (-1 : Int)) → False := fun z e => by
    have := congrArg Prod.fst e
    simp at this
  by_cases c0 : l.f + ((0 : Nat) : Int) * l.z ≤ x ∧ x < l.f + ((0 : Nat) : Int) * l.z + l.z
  · rw [zoneFrom_hit c0] at h; exact (key _ h).elim
  rw [zoneFrom_miss c0] at h
  by_cases c1 : l.f + ((0 + 1 : Nat) : Int) * l.z ≤ x ∧ x < l.f + ((0 + 1 : Nat) : Int) * l.z + l.z
  · rw [zoneFrom_hit c1] at h; exact (key _ h).elim
  rw [zoneFrom_miss c1] at h
  by_cases c2 : l.f + ((0 + 1 + 1 : Nat) : Int) * l.z ≤ x ∧ x < l.f + ((0 + 1 + 1 : Nat) : Int) * l.z + l.z
  · rw [zoneFrom_hit c2] at h; exact (key _ h).elim
  rw [zoneFrom_miss c2] at h
  by_cases c3 : l.f + ((0 + 1 + 1 + 1 : Nat) : Int) * l.z ≤ x ∧ x < l.f + ((0 + 1 + 1 + 1 : Nat) : Int) * l.z + l.z
  · rw [zoneFrom_hit c3] at h; exact (key _ h).elim
  push_cast at c0 c1 c2 c3
  omega
def secT (l : Lay) (z p : Nat) : Int := l.f + (z : Nat) * l.z + p
theorem sec_same {zz z p z' p' : Nat} (hz : z < 4) (hz' : z' < 4) (hp : p < zz) (hp' : p' < zz) (h : (z : Int) * (zz : Int) + p = (z' : Int) * (zz : Int) + p') : z = z' ∧ p = p' := by
  have h1 : z = 0 ∨ z = 1 ∨ z = 2 ∨ z = 3 := by omega
  have h2 : z' = 0 ∨ z' = 1 ∨ z' = 2 ∨ z' = 3 := by omega
  rcases h1 with rfl | rfl | rfl | rfl <;> rcases h2 with rfl | rfl | rfl | rfl <;> constructor <;> omega
theorem sec_one {l : Lay} (hk : layOk l = true) {z p z' p' : Nat} (hz : z < 4) (hz' : z' < 4) (hp : p < zN l) (hp' : p' < zN l) (h : secT l z p = secT l z' p') : z = z' ∧ p = p' := by
  unfold secT at h
  rw [(zN_of hk).1] at h
  exact sec_same hz hz' hp hp' (by omega)
theorem zp_sec {l : Lay} (hk : layOk l = true) {z p : Nat} (hz : z < 4) (hp : p < zN l) : layZP l (secT l z p) = ((z : Int), (p : Int)) := by
  have hzz := (zN_of hk).1
  rcases zp_nat l (secT l z p) with h | ⟨z', p', h1, h2, _, h3, _, h4⟩
  · have h5 := zp_none17 hk h
    unfold secT at h5
    rw [hzz] at h5
    have h1 : z = 0 ∨ z = 1 ∨ z = 2 ∨ z = 3 := by omega
    rcases h1 with rfl | rfl | rfl | rfl <;> omega
  · obtain ⟨rfl, rfl⟩ := sec_one hk hz h1 hp h2 h4
    exact h3
/-- What these maps owe those: the sectors of R are taken here and free there, all else is the same. -/
structure Owe (l : Lay) (M N : List (List UInt8)) (R : List Int) : Prop where
  right : RightM l N
  bits : ∀ (z p : Nat) (s t : List UInt8), M[z]? = some s → N[z]? = some t → p < zN l → Bm.bit t p = (Bm.bit s p || decide (secT l z p ∈ R))
  free : ∀ x ∈ R, ∃ (z p : Nat) (s : List UInt8), x = secT l z p ∧ z < 4 ∧ 2 ≤ p ∧ p < zN l ∧ M[z]? = some s ∧ Bm.bit s p = false
  nodup : R.Nodup
theorem Owe.nil {l : Lay} {M N : List (List UInt8)} (hM : RightM l M) (h : Owe l M N []) : N = M := by
  apply List.ext_getElem (by rw [h.right.four, hM.four])
  intro z h1 h2
  have hs : M[z]? = some M[z] := List.getElem?_eq_getElem h2
  have ht : N[z]? = some N[z] := List.getElem?_eq_getElem h1
  have gs := hM.good _ (List.getElem_mem h2)
  have gt := h.right.good _ (List.getElem_mem h1)
  refine Bm.ext (by rw [gs.len, gt.len]) fun p _ => ?_
  by_cases hp : p < zN l
  · rw [h.bits z p _ _ hs ht hp]; simp
  · rw [gs.no p (by omega), gt.no p (by omega)]
theorem Owe.give {l : Lay} {M N : List (List UInt8)} {R : List Int} {x : Int} (hM : RightM l M) (h : Owe l M N R) (hx : x ∈ R) : ∃ N', giveTo l N [x] = some N' ∧ Owe l M N' (R.erase x) := by
  obtain ⟨z, p, s, rfl, hz, hp2, hp, hs, hb⟩ := h.free x hx
  have hlt : z < N.length := by rw [h.right.four]; exact hz
  have ht : N[z]? = some N[z] := List.getElem?_eq_getElem hlt
  have hbt : Bm.bit N[z] p = true := by rw [h.bits z p s _ hs ht hp, decide_eq_true hx]; simp
  have hg : giveTo l N [secT l z p] = some (N.set z (Bm.set N[z] p false)) := by
    rw [giveTo_one (zp_sec hM.ok hz hp) ht, if_pos ⟨hp2, hbt⟩]
  refine ⟨_, hg, giveTo_step h.right hg, fun z' p' s' t' hs' ht' hp' => ?_, fun y hy => h.free y (List.mem_of_mem_erase hy), h.nodup.erase _⟩
  have hm : secT l z' p' ∈ R.erase (secT l z p) ↔ secT l z' p' ≠ secT l z p ∧ secT l z' p' ∈ R := h.nodup.mem_erase_iff
  have hz' : z' < 4 := by
    obtain ⟨h1, _⟩ := List.getElem?_eq_some_iff.1 hs'
    rw [hM.four] at h1; exact h1
  by_cases e : z' = z
  · subst e
    rw [List.getElem?_set_self hlt] at ht'
    obtain rfl := Option.some.inj ht'
    obtain rfl := Option.some.inj (hs'.symm.trans hs)
    rw [Bm.bit_set]
    by_cases ep : p' = p
    · subst ep
      rw [if_pos ⟨rfl, by
        have := size_z (zN l) (zN_of hM.ok).2.2
        rw [(h.right.good _ (List.getElem_mem hlt)).len]; omega⟩, hb]
      have : ¬ secT l z' p' ∈ R.erase (secT l z' p') := fun e => (hm.1 e).1 rfl
      simp [this]
    · rw [if_neg (fun e => ep e.1), h.bits z' p' s' _ hs' ht hp']
      have hne : secT l z' p' ≠ secT l z' p := fun e => ep (sec_one hM.ok hz' hz' hp' hp e).2
      congr 1
      exact decide_eq_decide.2 ⟨fun a => hm.2 ⟨hne, a⟩, fun a => (hm.1 a).2⟩
  · rw [List.getElem?_set_ne (fun e2 => e e2.symm)] at ht'
    rw [h.bits z' p' s' t' hs' ht' hp']
    have hne : secT l z' p' ≠ secT l z p := fun e2 => e (sec_one hM.ok hz' hz hp' hp e2).1
    congr 1
    exact decide_eq_decide.2 ⟨fun a => hm.2 ⟨hne, a⟩, fun a => (hm.1 a).2⟩
theorem giveTo_cons {l : Lay} {N N' : List (List UInt8)} {x : Int} {xs : List Int} (h : giveTo l N [x] = some N') : giveTo l N (x :: xs) = giveTo l N' xs := by
  rw [giveTo] at h ⊢
  split at h
  · rename_i hc
    rw [if_pos hc]
    obtain rfl := Option.some.inj h
    rfl
  · cases h
theorem Owe.all {l : Lay} {M : List (List UInt8)} (hM : RightM l M) : ∀ (xs : List Int) {N : List (List UInt8)} {R : List Int}, Owe l M N R → xs.Perm R → giveTo l N xs = some M
  | [], N, R, h, hp => by
    obtain rfl : R = [] := hp.nil_eq.symm
    rw [h.nil hM]; rfl
  | x :: xs, N, R, h, hp => by
    obtain ⟨N', h1, h2⟩ := h.give hM ((hp.mem_iff (a := x)).1 List.mem_cons_self)
    rw [giveTo_cons h1]
    exact Owe.all hM xs h2 (List.cons_perm_iff_perm_erase.1 hp).2
theorem takeUp_owe {l : Lay} {M : List (List UInt8)} (hM : RightM l M) (zn nn : Nat) : ∀ k, Owe l M (takeUp l M zn nn k).1 (takeUp l M zn nn k).2
  | 0 => by
    refine ⟨hM, fun z p s t hs ht _ => ?_, (fun x hx => by cases hx), List.nodup_nil⟩
    obtain rfl := Option.some.inj (hs.symm.trans ht)
    have : ¬ secT l z p ∈ (takeUp l M zn nn 0).2 := fun e => by cases e
    simp [this]
  | k + 1 => by
    have ih := takeUp_owe hM zn nn k
    have hr := takeUp_right hM zn nn (k + 1)
    rw [takeUp_succ] at hr ⊢
    obtain ⟨N, hN⟩ : ∃ x, (takeUp l M zn nn k).1 = x := ⟨_, rfl⟩
    obtain ⟨S, hS⟩ : ∃ x, (takeUp l M zn nn k).2 = x := ⟨_, rfl⟩
    unfold takeStep at hr ⊢
    rw [hN, hS] at ih
    rw [hN, hS] at hr ⊢
    obtain ⟨z, hz⟩ : ∃ z, (zn + k) % 4 = z := ⟨_, rfl⟩
    have hz4 : z < 4 := by omega
    rw [hz] at hr ⊢
    have hlt : z < N.length := by rw [ih.right.four]; exact hz4
    have ht : N[z]? = some N[z] := List.getElem?_eq_getElem hlt
    obtain ⟨t, et⟩ : ∃ t, N[z] = t := ⟨_, rfl⟩
    rw [et] at ht
    have e1 : N.getD z [] = t := by rw [List.getD_eq_getElem?_getD, ht]; rfl
    rw [e1] at hr ⊢
    obtain ⟨ps, hps⟩ : ∃ ps, (frees t (zN l)).take (nn - S.length) = ps := ⟨_, rfl⟩
    rw [hps] at hr ⊢
    have hf : ∀ q ∈ ps, q < zN l ∧ Bm.bit t q = false := fun q hq => mem_frees.1 (List.mem_of_mem_take (by rw [hps]; exact hq))
    have gt := ih.right.good t (List.mem_of_getElem? ht)
    have hin : ∀ q ∈ ps, q < 8 * t.length := fun q hq => by
      have := (hf q hq).1
      have := size_z (zN l) (zN_of hM.ok).2.2
      rw [gt.len]; omega
    have hpn : ps.Nodup := by
      rw [← hps]
      exact List.Pairwise.imp (fun h => Nat.ne_of_lt h) ((frees_rise t (zN l)).sublist (List.take_sublist _ _))
    obtain ⟨sM, hMz⟩ : ∃ a, M[z]? = some a := ⟨_, List.getElem?_eq_getElem (by rw [hM.four]; exact hz4)⟩
    have hmem : ∀ p, p < zN l → (secT l z p ∈ ps.map (fun (p : Nat) => l.f + (z : Nat) * l.z + p) ↔ p ∈ ps) := fun p hp => by
      rw [List.mem_map]
      constructor
      · rintro ⟨q, hq, e⟩
        obtain ⟨_, rfl⟩ := sec_one hM.ok hz4 hz4 (hf q hq).1 hp (show secT l z q = secT l z p from e)
        exact hq
      · intro h; exact ⟨p, h, rfl⟩
    refine ⟨hr, fun z' p s t' hs' ht' hp => ?_, fun x hx => ?_, ?_⟩
    · have hz' : z' < 4 := by
        obtain ⟨h1, _⟩ := List.getElem?_eq_some_iff.1 hs'
        rw [hM.four] at h1; exact h1
      by_cases e : z' = z
      · subst e
        rw [List.getElem?_set_self hlt] at ht'
        obtain rfl := Option.some.inj ht'
        rw [bit_setAll hin, ih.bits z' p s t hs' ht hp, Bool.or_assoc]
        congr 1
        have h1 := hmem p hp
        by_cases a : secT l z' p ∈ S
        · simp [a]
        · by_cases b : p ∈ ps
          · rw [decide_eq_true b, decide_eq_true (List.mem_append_right S (h1.2 b))]; simp
          · rw [decide_eq_false a, decide_eq_false b, decide_eq_false (fun c => by
              rcases List.mem_append.1 c with c | c
              · exact a c
              · exact b (h1.1 c))]
            rfl
      · rw [List.getElem?_set_ne (fun e2 => e e2.symm)] at ht'
        rw [ih.bits z' p s t' hs' ht' hp]
        congr 1
        refine decide_eq_decide.2 ⟨List.mem_append_left _, fun c => ?_⟩
        rcases List.mem_append.1 c with c | c
        · exact c
        · obtain ⟨q, hq, e2⟩ := List.mem_map.1 c
          exact absurd (sec_one hM.ok hz' hz4 hp (hf q hq).1 (show secT l z' p = secT l z q from e2.symm)).1 e
    · rcases List.mem_append.1 hx with hx | hx
      · exact ih.free x hx
      · obtain ⟨q, hq, rfl⟩ := List.mem_map.1 hx
        obtain ⟨h1, h2⟩ := hf q hq
        have h3 := ih.bits z q _ t hMz ht h1
        rw [h2] at h3
        refine ⟨z, q, _, rfl, hz4, ?_, h1, hMz, (Bool.or_eq_false_iff.1 h3.symm).1⟩
        have h4 : q ≠ 0 := fun e => by rw [e, gt.b0] at h2; cases h2
        have h5 : q ≠ 1 := fun e => by rw [e, gt.b1] at h2; cases h2
        omega
    · refine List.nodup_append.2 ⟨ih.nodup, ?_, fun a ha b hb => ?_⟩
      · refine List.Pairwise.map _ (fun a b h => ?_) hpn
        intro e
        apply h
        have : (a : Int) = (b : Int) := by omega
        omega
      · rintro rfl
        obtain ⟨q, hq, rfl⟩ := List.mem_map.1 hb
        obtain ⟨h1, h2⟩ := hf q hq
        have h3 := ih.bits z q _ t hMz ht h1
        rw [h2, decide_eq_true (show secT l z q ∈ S from ha)] at h3
        simp at h3
end Go.Proofs.Ytoakjcmhmlngfaa
