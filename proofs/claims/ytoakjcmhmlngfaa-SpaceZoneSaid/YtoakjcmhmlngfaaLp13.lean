/- PLAIN: what the document says of layouts: made, written, read; where things lie. -/
import Derived.Test.YtoakjcmhmlngfaaBase
import Derived.Test.YtoakjcmhmlngfaaBitMath
namespace Go.Proofs.Ytoakjcmhmlngfaa
open Go.RowKit

/-- A layout: sectors, nodes, first, size. -/
structure Lay where
  s : Int
  n : Int
  f : Int
  z : Int
deriving DecidableEq
def Lay.v (l : Lay) : Value := .agg #[.int .i64 l.s, .int .i64 l.n, .int .i64 l.f, .int .i64 l.z]
def Lay.zero : Lay := ⟨0, 0, 0, 0⟩
def layE (s n : Int) : Int := if n < 1 ∨ 8 < n ∨ 65536 < s then 1 else if s < 40 * n + 14 then 11 else 0
def layN (s n : Int) : Lay := if layE s n = 0 then ⟨s, n, 2 + 40 * n, min ((s - (2 + 40 * n)) / 4) 4000⟩ else .zero
/-- May it be? -/
def layOk (l : Lay) : Bool := decide (layE l.s l.n = 0) && decide (layN l.s l.n = l)
theorem layE_arg {s n : Int} (h : n < 1 ∨ 8 < n ∨ 65536 < s) : layE s n = 1 := if_pos h
theorem layE_size {s n : Int} (h : ¬ (n < 1 ∨ 8 < n ∨ 65536 < s)) (h2 : s < 40 * n + 14) : layE s n = 11 := by rw [layE, if_neg h, if_pos h2]
theorem layE_ok {s n : Int} (h : ¬ (n < 1 ∨ 8 < n ∨ 65536 < s)) (h2 : ¬ s < 40 * n + 14) : layE s n = 0 := by rw [layE, if_neg h, if_neg h2]
theorem layE_cases (s n : Int) : (layE s n = 1 ∧ (n < 1 ∨ 8 < n ∨ 65536 < s)) ∨ (layE s n = 11 ∧ 1 ≤ n ∧ n ≤ 8 ∧ s ≤ 65536 ∧ s < 40 * n + 14) ∨ (layE s n = 0 ∧ 1 ≤ n ∧ n ≤ 8 ∧ s ≤ 65536 ∧ 40 * n + 14 ≤ s) := by
  by_cases h : n < 1 ∨ 8 < n ∨ 65536 < s
  · exact .inl ⟨layE_arg h, h⟩
  · by_cases h2 : s < 40 * n + 14
    · exact .inr (.inl ⟨layE_size h h2, by omega⟩)
    · exact .inr (.inr ⟨layE_ok h h2, by omega⟩)
theorem layN_bad {s n : Int} (h : layE s n ≠ 0) : layN s n = .zero := if_neg h
theorem layN_ok {s n : Int} (h : layE s n = 0) : layN s n = ⟨s, n, 2 + 40 * n, min ((s - (2 + 40 * n)) / 4) 4000⟩ := if_pos h
/-- What may be said of one that may be. -/
structure LayOk (l : Lay) : Prop where
  n1 : 1 ≤ l.n
  n8 : l.n ≤ 8
  s1 : l.s ≤ 65536
  s0 : 40 * l.n + 14 ≤ l.s
  f : l.f = 2 + 40 * l.n
  z : l.z = min ((l.s - (2 + 40 * l.n)) / 4) 4000
theorem layOk_iff (l : Lay) : layOk l = true ↔ LayOk l := by
  obtain ⟨s, n, f, z⟩ := l
  simp only [layOk, Bool.and_eq_true, decide_eq_true_eq]
  constructor
  · rintro ⟨h, k⟩
    rw [layN_ok h] at k
    simp only [Lay.mk.injEq] at k
    rcases layE_cases s n with ⟨e, _⟩ | ⟨e, _⟩ | ⟨_, a, b, c, d⟩
    · omega
    · omega
    · exact ⟨a, b, c, d, k.2.2.1.symm, k.2.2.2.symm⟩
  · rintro ⟨a, b, c, d, e, g⟩
    have h : layE s n = 0 := layE_ok (by simp at *; omega) (by simp at *; omega)
    refine ⟨h, ?_⟩
    rw [layN_ok h]
    simp at e g
    rw [e, g]
theorem LayOk.of {l : Lay} (h : layOk l = true) : LayOk l := (layOk_iff l).1 h
theorem LayOk.z3 {l : Lay} (h : LayOk l) : 3 ≤ l.z ∧ l.z ≤ 4000 ∧ l.f + 4 * l.z ≤ l.s := by
  obtain ⟨a, b, c, d, e, g⟩ := h
  omega
theorem LayOk.fb {l : Lay} (h : LayOk l) : 42 ≤ l.f ∧ l.f ≤ 322 := by
  obtain ⟨a, b, c, d, e, g⟩ := h
  omega
theorem LayOk.made {l : Lay} (h : LayOk l) : layE l.s l.n = 0 ∧ layN l.s l.n = l := by
  have := (layOk_iff l).2 h
  simp only [layOk, Bool.and_eq_true, decide_eq_true_eq] at this
  exact this
theorem layOk_new {s n : Int} (h : layE s n = 0) : layOk (layN s n) = true := by
  rw [layN_ok h, layOk]
  simp [h, layN_ok h]
theorem layOk_newB (s n : Int) : layOk (layN s n) = decide (layE s n = 0) := by
  by_cases h : layE s n = 0
  · rw [layOk_new h, h]; rfl
  · rw [layN_bad h]
    simp [h]
    decide
/-- A layout's bytes. -/
def signS : List UInt8 := [76, 71, 83, 49]
def layB (l : Lay) : List UInt8 := if layOk l then signS ++ (be 4 l.s.toNat ++ be 2 l.n.toNat) else []
def layBE (l : Lay) : Int := if layOk l then 0 else 1
theorem layB_ok {l : Lay} (h : layOk l = true) : layB l = signS ++ (be 4 l.s.toNat ++ be 2 l.n.toNat) := if_pos h
/-- What is read. -/
def rdS (l : List UInt8) : Int := num (takeS (takeL l 4) 4)
def rdN (l : List UInt8) : Int := num (takeS (takeL (takeL l 4) 4) 2)
def rdLay (l : List UInt8) : Lay := layN (rdS l) (rdN l)
def rdOk (l : List UInt8) : Bool := layOk (rdLay l) && (layB (rdLay l) == l)
def rdL (l : List UInt8) : Lay := if rdOk l then rdLay l else .zero
def rdE (l : List UInt8) : Int := if rdOk l then 0 else 10
theorem rd_put {l : Lay} (h : LayOk l) : rdS (signS ++ (be 4 l.s.toNat ++ be 2 l.n.toNat)) = l.s ∧ rdN (signS ++ (be 4 l.s.toNat ++ be 2 l.n.toNat)) = l.n := by
  have h1 := h.n1
  have h2 := h.n8
  have h3 := h.s1
  have h4 := h.s0
  have e0 : takeL (signS ++ (be 4 l.s.toNat ++ be 2 l.n.toNat)) 4 = be 4 l.s.toNat ++ be 2 l.n.toNat := by
    rw [takeL, if_pos (by simp [signS])]; rfl
  obtain ⟨p1, p2, _⟩ := take_put 4 l.s.toNat (be 2 l.n.toNat) (by simp; omega)
  obtain ⟨q1, _, _⟩ := take_put 2 l.n.toNat [] (by simp; omega)
  rw [List.append_nil] at q1
  constructor
  · rw [rdS, e0, p1]; omega
  · rw [rdN, e0, p2, q1]; omega
theorem rd_back {l : Lay} (h : LayOk l) : rdOk (layB l) = true ∧ rdLay (layB l) = l := by
  have hk := (layOk_iff l).2 h
  have e : rdLay (layB l) = l := by
    rw [layB_ok hk, rdLay, (rd_put h).1, (rd_put h).2, h.made.2]
  refine ⟨?_, e⟩
  rw [rdOk, e, hk]
  simp
/-- The document reads ten bytes with the sign, and makes what they say. -/
def xrdOk (l : List UInt8) : Bool := decide (l.length = 10) && (l.take 4 == signS) && decide (layE (rdS l) (rdN l) = 0)
theorem be_num : ∀ (k : Nat) (t : List UInt8), t.length = k → be k (num t) = t
  | 0, t, h => by rw [List.length_eq_zero_iff.1 h]; rfl
  | k + 1, t, h => by
    obtain ⟨a, b, rfl⟩ : ∃ a b, t = a ++ [b] := ⟨t.dropLast, t.getLast (by intro e; rw [e] at h; cases h), (List.dropLast_concat_getLast _).symm⟩
    have ha : a.length = k := by simpa using h
    rw [be, num_snoc, show (num a * 256 + b.toNat) / 256 = num a by have := b.toNat_lt; omega, be_num k a ha]
    congr 2
    apply UInt8.toNat_inj.1
    simp
theorem rdOk_doc (l : List UInt8) : xrdOk l = rdOk l := by
  rw [Bool.eq_iff_iff]
  constructor
  · intro h
    simp only [xrdOk, Bool.and_eq_true, decide_eq_true_eq, beq_iff_eq] at h
    obtain ⟨⟨h1, h2⟩, h3⟩ := h
    have hk := layOk_new h3
    have e1 : takeL l 4 = l.drop 4 := by rw [takeL, if_pos (by omega)]
    have e2 : takeS (l.drop 4) 4 = (l.drop 4).take 4 := by rw [takeS, if_pos (by simp; omega)]
    have e3 : takeL (l.drop 4) 4 = l.drop 8 := by rw [takeL, if_pos (by simp; omega), List.drop_drop]
    have e4 : takeS (l.drop 8) 2 = l.drop 8 := by rw [takeS, if_pos (by simp; omega), List.take_of_length_le (by simp; omega)]
    have es : (layN (rdS l) (rdN l)).s = rdS l := by rw [layN_ok h3]
    have en : (layN (rdS l) (rdN l)).n = rdN l := by rw [layN_ok h3]
    rw [rdOk, rdLay, hk, Bool.true_and, beq_iff_eq, layB_ok hk, es, en, ← h2, rdS, rdN, e1, e2, e3, e4, Int.toNat_natCast, Int.toNat_natCast, be_num 4 _ (by simp; omega), be_num 2 _ (by simp; omega)]
    rw [show l.drop 8 = (l.drop 4).drop 4 by rw [List.drop_drop], List.take_append_drop, List.take_append_drop]
  · intro h
    simp only [rdOk, Bool.and_eq_true, beq_iff_eq] at h
    obtain ⟨h1, h2⟩ := h
    rw [rdLay, layOk_newB, decide_eq_true_eq] at h1
    rw [rdLay] at h2
    have hk := layOk_new h1
    rw [layB_ok hk] at h2
    simp only [xrdOk, Bool.and_eq_true, decide_eq_true_eq, beq_iff_eq]
    refine ⟨⟨?_, ?_⟩, h1⟩
    · rw [← h2]; simp [be_length, signS]
    · rw [← h2]; rfl
/-! ### where things lie -/
def layJ (l : Lay) (k : Int) : Int := if layOk l = true ∧ 0 ≤ k ∧ k < l.n then 2 + 40 * k else -1
def layP (l : Lay) (z p : Int) : Int := if layOk l = true ∧ 0 ≤ z ∧ z < 4 then l.f + z * l.z + p else -1
/-- In which zone a sector lies, from a zone on. -/
def zoneFrom (l : Lay) (x : Int) : Nat → Nat → Int × Int
  | 0, _ => (-1, -1)
  | k + 1, z => if l.f + z * l.z ≤ x ∧ x < l.f + z * l.z + l.z then ((z : Int), x - (l.f + z * l.z)) else zoneFrom l x k (z + 1)
def layZP (l : Lay) (x : Int) : Int × Int := if layOk l then zoneFrom l x 4 0 else (-1, -1)
def layR (l : Lay) : Int := if layOk l then 4 * (l.z - 2) else 0
end Go.Proofs.Ytoakjcmhmlngfaa
