/- PLAIN: what is elder changes nothing. -/
import Derived.Test.YtgjlcpafkmifoaaQu10
namespace Go.Proofs.Ytgjlcpafkmifoaa
open Go.RowKit

def eH1 : Ho := wantH (Ho.new 7 1) 0 1
def eH2 : Ho := hearH eH1 ⟨3, 7, 0, 1, 1⟩
def eT1 : Ta := tHa (Ta.new 7 1) 2 ⟨1, 7, 0, 1, 1⟩
theorem el_1 : wantOk (Ho.new 7 1) 0 1 = true := by rfl
theorem el_2 : wantN (Ho.new 7 1) 0 1 = ⟨1, 7, 0, 1, 1⟩ := by rfl
theorem el_3 : tHt (Ta.new 7 1) 2 ⟨1, 7, 0, 1, 1⟩ = [(2, ⟨3, 7, 0, 1, 1⟩)] := by rfl
theorem el_4 : eT1.h 0 = [(2, 1)] ∧ eT1.ws 0 = [] ∧ eT1.ep = 7 ∧ eT1.sz = 1 ∧ eT1.last 0 2 = 1 := ⟨rfl, rfl, rfl, rfl, rfl⟩
theorem el_5 : eH2.lk 0 = ⟨1, 1, 0, 1⟩ ∧ eH2.ep = 7 ∧ eH2.sz = 1 := ⟨rfl, rfl, rfl⟩
theorem el_6 : (eH2.at 0).has = 1 ∧ (eH2.at 0).wants = 0 := ⟨rfl, rfl⟩
theorem el_7 : ∀ r, r < 16 → 0 ≤ (eH1.lk r).count ∧ (eH1.lk r).count ≤ 4611686018427387900 := by
  intro r _
  cases r with
  | zero => exact ⟨(by decide : (0 : Int) ≤ 1), (by decide : (1 : Int) ≤ 4611686018427387900)⟩
  | succ r => exact ⟨(by decide : (0 : Int) ≤ 0), (by decide : (0 : Int) ≤ 4611686018427387900)⟩
theorem el_8 : ∀ r, r < 16 → 0 ≤ (eH2.lk r).count ∧ (eH2.lk r).count ≤ 4611686018427387900 := by
  intro r _
  cases r with
  | zero => exact ⟨(by decide : (0 : Int) ≤ 1), (by decide : (1 : Int) ≤ 4611686018427387900)⟩
  | succ r => exact ⟨(by decide : (0 : Int) ≤ 0), (by decide : (0 : Int) ≤ 4611686018427387900)⟩
theorem el_t (n : Nt) (hr : n.res = 0) (hs : n.epoch = 7 → n.seq = 0) : tHa eT1 2 n = eT1 := by
  unfold tHa
  cases hq : tOk eT1 2 n with
  | false => rfl
  | true =>
    have he : n.epoch = 7 := by
      simp only [tOk, meantB, Bool.and_eq_true, beq_iff_eq] at hq
      exact hq.2.1.2
    have h0 := hs he
    rw [if_pos rfl, hr]
    show hTa eT1 0 2 n = eT1
    unfold hTa
    have hl := el_4.2.2.2.2
    split
    · rw [if_pos (.inl (by rw [hl]; omega))]
    · split
      · rw [if_pos (by rw [hl]; omega)]
      · rfl
theorem el_h (n : Nt) (hr : n.res = 0) (hs : n.epoch = 7 → n.seq = 0) (hk : n.epoch = 7 → n.kind ≠ 4) : hearH eH2 n = eH2 := by
  unfold hearH
  cases hq : meantB n eH2.ep eH2.sz with
  | false => rfl
  | true =>
    have he : n.epoch = 7 := by
      simp only [meantB, Bool.and_eq_true, beq_iff_eq] at hq
      exact hq.1.2
    rw [if_pos rfl, hr]
    show eH2.put 0 (hearL (eH2.lk 0) n) = eH2
    have e1 : hearL (eH2.lk 0) n = eH2.lk 0 := by
      unfold hearL
      split
      · rw [if_pos (.inl rfl)]
      · rw [if_neg (hk he)]
    rw [e1, Ho.put_same]
end Go.Proofs.Ytgjlcpafkmifoaa
