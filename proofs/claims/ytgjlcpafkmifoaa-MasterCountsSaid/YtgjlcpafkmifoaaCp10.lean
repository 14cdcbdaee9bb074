/- PLAIN: counts of a holder's notes. -/
import Derived.Test.YtgjlcpafkmifoaaHa10
namespace Go.Proofs.Ytgjlcpafkmifoaa
open Go.RowKit

/-- Notes that go on from a count to another one. -/
def Chain : Int → List Nt → Int → Prop
  | c, [], d => c = d
  | c, n :: l, d => n.res = 0 ∧ n.epoch = 7 ∧ ((n.kind = 1 ∧ n.seq = c) ∨ n.seq = c + 1) ∧ Chain n.seq l d
structure HInv (H : Ho) (k : Nat) : Prop where
  ep : H.ep = 7
  sz : H.sz = 1
  cnt : ∀ r, r < 16 → 0 ≤ (H.lk r).count ∧ (H.lk r).count ≤ 2 * (k : Int)
theorem put_cnt {H : Ho} {k : Nat} (x : HInv H k) (l : Lk) (h0 : 0 ≤ l.count) (h1 : l.count ≤ 2 * ((k + 1 : Nat) : Int)) (r : Nat) : HInv (H.put r l) (k + 1) :=
  ⟨x.ep, x.sz, fun j hj => by
    by_cases e : j = r
    · subst e; rw [Ho.put_at]; exact ⟨h0, h1⟩
    · have := x.cnt j hj
      simp only [Ho.put, if_neg e]
      omega⟩
theorem HInv.up {H : Ho} {k : Nat} (x : HInv H k) : HInv H (k + 1) := ⟨x.ep, x.sz, fun j hj => by have := x.cnt j hj; omega⟩
theorem c_want {H : Ho} {k : Nat} (x : HInv H k) (m : Int) : HInv (wantH H 0 m) (k + 1) ∧ Chain (H.lk 0).count (if wantOk H 0 m then [wantN H 0 m] else []) ((wantH H 0 m).lk 0).count := by
  have hc := x.cnt 0 (by omega)
  unfold wantH wantN
  cases wantOk H 0 m with
  | false => exact ⟨x.up, rfl⟩
  | true =>
    simp only [if_true]
    have z : (0 : Int).toNat = 0 := rfl
    rw [z, Ho.put_at]
    unfold wantL
    split
    · exact ⟨put_cnt x _ hc.1 (by omega) 0, rfl, x.ep, .inl ⟨rfl, rfl⟩, rfl⟩
    · exact ⟨put_cnt x _ (by show 0 ≤ (H.lk 0).count + 1; omega) (by show (H.lk 0).count + 1 ≤ _; omega) 0, rfl, x.ep, .inr rfl, rfl⟩
theorem c_drop {H : Ho} {k : Nat} (x : HInv H k) (m : Int) : HInv (dropH H 0 m) (k + 1) ∧ Chain (H.lk 0).count (if dropOk H 0 m then [dropN H 0 m] else []) ((dropH H 0 m).lk 0).count := by
  have hc := x.cnt 0 (by omega)
  unfold dropH dropN
  cases dropOk H 0 m with
  | false => exact ⟨x.up, rfl⟩
  | true =>
    simp only [if_true]
    have z : (0 : Int).toNat = 0 := rfl
    rw [z, Ho.put_at]
    exact ⟨put_cnt x _ (by show 0 ≤ (H.lk 0).count + 1; omega) (by show (H.lk 0).count + 1 ≤ _; omega) 0, rfl, x.ep, .inr rfl, rfl⟩
theorem c_hear {H : Ho} {k : Nat} (x : HInv H k) (n : Nt) (hr : n.res = 0) : HInv (hearH H n) (k + 1) ∧ Chain (H.lk 0).count (hearT H n) ((hearH H n).lk 0).count := by
  have hc := x.cnt 0 (by omega)
  unfold hearH hearT
  cases meantB n H.ep H.sz with
  | false => exact ⟨x.up, rfl⟩
  | true =>
    simp only [if_true]
    rw [hr]
    have z : (0 : Int).toNat = 0 := rfl
    rw [z, Ho.put_at]
    obtain ⟨l, hl⟩ : ∃ l, H.lk 0 = l := ⟨_, rfl⟩
    rw [hl] at hc ⊢
    by_cases k3 : n.kind = 3
    · have e1 : hearL l n = (if l.wants = 0 ∨ l.count ≠ n.seq ∨ covB n.mode l.wants = false then l else ⟨n.mode, n.mode, 0, l.count⟩) := if_pos k3
      have e2 : hearS H.ep l n = [] := if_neg (fun e => by have := e.1; omega)
      rw [e1, e2]
      split
      · exact ⟨put_cnt x _ hc.1 (by omega) 0, rfl⟩
      · exact ⟨put_cnt x _ (by show 0 ≤ l.count; omega) (by show l.count ≤ _; omega) 0, rfl⟩
    · by_cases k4 : n.kind = 4
      · cases hs : stB l.has n.mode with
        | true =>
          have e1 : hearL l n = ⟨l.has, if stB l.keeps n.mode then n.mode else l.keeps, l.wants, l.count⟩ := by unfold hearL; rw [if_neg k3, if_pos k4, if_pos hs]
          have e2 : hearS H.ep l n = [] := if_neg (fun e => by rw [hs] at e; cases e.2)
          rw [e1, e2]
          exact ⟨put_cnt x _ (by show 0 ≤ l.count; omega) (by show l.count ≤ _; omega) 0, rfl⟩
        | false =>
          have e1 : hearL l n = ⟨l.has, l.keeps, l.wants, l.count + (if l.wants = 0 then 1 else 2)⟩ := by unfold hearL; rw [if_neg k3, if_pos k4, if_neg (by rw [hs]; simp)]
          have e2 : hearS H.ep l n = ⟨2, H.ep, n.res, l.has, l.count + 1⟩ :: (if l.wants = 0 then [] else [⟨1, H.ep, n.res, l.wants, l.count + 2⟩]) := if_pos ⟨k4, hs⟩
          rw [e1, e2]
          by_cases hw : l.wants = 0
          · rw [if_pos hw, if_pos hw]
            exact ⟨put_cnt x _ (by show 0 ≤ l.count + 1; omega) (by show l.count + 1 ≤ _; omega) 0, hr, x.ep, .inr rfl, rfl⟩
          · rw [if_neg hw, if_neg hw]
            exact ⟨put_cnt x _ (by show 0 ≤ l.count + 2; omega) (by show l.count + 2 ≤ _; omega) 0, hr, x.ep, .inr rfl, hr, x.ep, .inr (by show l.count + 2 = l.count + 1 + 1; omega), rfl⟩
      · have e1 : hearL l n = l := by unfold hearL; rw [if_neg k3, if_neg k4]
        have e2 : hearS H.ep l n = [] := if_neg (fun e => k4 e.1)
        rw [e1, e2]
        exact ⟨put_cnt x _ hc.1 (by omega) 0, rfl⟩
theorem chain_at : ∀ (l : List Nt) (c d : Int) (j : Nat) (n : Nt), Chain c (l.drop j) d → l[j]? = some n → n.res = 0 ∧ n.epoch = 7 ∧ ((n.kind = 1 ∧ n.seq = c) ∨ n.seq = c + 1) ∧ Chain n.seq (l.drop (j + 1)) d := by
  intro l c d j n h hj
  obtain ⟨hk, e⟩ := List.getElem?_eq_some_iff.1 hj
  rw [List.drop_eq_getElem_cons hk, e] at h
  exact h
theorem chain_le : ∀ (l : List Nt) (c d : Int), Chain c l d → c ≤ d
  | [], c, d, h => by have h' : c = d := h; omega
  | n :: l, c, d, h => by
    obtain ⟨_, _, h3, h4⟩ := h
    have := chain_le l _ _ h4
    omega
theorem hinv_new : HInv (Ho.new 7 1) 0 := ⟨rfl, rfl, fun r _ => ⟨(by decide : (0 : Int) ≤ 0), (by decide : (0 : Int) ≤ 2 * ((0 : Nat) : Int))⟩⟩
end Go.Proofs.Ytgjlcpafkmifoaa
