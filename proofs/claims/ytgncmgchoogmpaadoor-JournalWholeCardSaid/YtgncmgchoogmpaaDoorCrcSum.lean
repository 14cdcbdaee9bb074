/- The check sum as a row of steps over bits, and what follows of it: it is linear, each step is one to one, and a burst of 32 bits is found. -/
import Derived.WalkKit
namespace Go.Proofs.YtgncmgchoogmpaaDoor.Crc
/-- One step. -/
def step (c : BitVec 32) : BitVec 32 := (c <<< 1) ^^^ (if c.msb then 0x04c11db7#32 else 0#32)
def steps : Nat → BitVec 32 → BitVec 32
  | 0, c => c
  | n + 1, c => steps n (step c)
theorem step_xor (a b : BitVec 32) : step (a ^^^ b) = step a ^^^ step b := by
  unfold step
  rw [BitVec.msb_xor, BitVec.shiftLeft_xor_distrib]
  cases a.msb <;> cases b.msb <;> simp only [Bool.false_xor, Bool.true_xor, Bool.not_true, Bool.not_false, if_true, if_false, Bool.false_eq_true, BitVec.xor_zero]
  · ac_rfl
  · ac_rfl
  · rw [show a <<< 1 ^^^ 79764919#32 ^^^ (b <<< 1 ^^^ 79764919#32) = a <<< 1 ^^^ b <<< 1 ^^^ (79764919#32 ^^^ 79764919#32) by ac_rfl]
    simp
theorem step_zero : step 0#32 = 0#32 := by decide
theorem steps_xor : ∀ n (a b : BitVec 32), steps n (a ^^^ b) = steps n a ^^^ steps n b
  | 0, _, _ => rfl
  | n + 1, a, b => by rw [steps, steps, steps, step_xor, steps_xor n]
theorem steps_zero : ∀ n, steps n 0#32 = 0#32
  | 0 => rfl
  | n + 1 => by rw [steps, step_zero, steps_zero n]
theorem steps_add : ∀ n m (c : BitVec 32), steps (n + m) c = steps m (steps n c)
  | 0, m, c => by rw [Nat.zero_add]; rfl
  | n + 1, m, c => by rw [Nat.succ_add, steps, steps, steps_add n]
/-- The last bit tells whether the first one was set; so a step can be undone. -/
theorem step_eq_zero (c : BitVec 32) (h : step c = 0#32) : c = 0#32 := by
  have h0 : (step c).getLsbD 0 = c.msb := by
    unfold step
    cases c.msb <;> simp
  have hm : c.msb = false := by rw [← h0, h]; rfl
  unfold step at h
  rw [hm] at h
  simp only [Bool.false_eq_true, if_false, BitVec.xor_zero] at h
  apply BitVec.eq_of_getLsbD_eq
  intro i hi
  by_cases e : i = 31
  · subst e
    have : c.getLsbD 31 = c.msb := by simp [BitVec.msb_eq_getLsbD_last]
    rw [this, hm]; simp
  · have := congrArg (fun x => x.getLsbD (i + 1)) h
    simp at this
    simp
    exact this (by omega)
theorem steps_eq_zero : ∀ n (c : BitVec 32), steps n c = 0#32 → c = 0#32
  | 0, _, h => h
  | n + 1, c, h => step_eq_zero c (steps_eq_zero n _ h)
theorem steps_inj (n : Nat) {a b : BitVec 32} (h : steps n a = steps n b) : a = b := by
  have h2 : steps n (a ^^^ b) = 0#32 := by rw [steps_xor, h, BitVec.xor_self]
  have h3 := steps_eq_zero n _ h2
  have h4 : (a ^^^ b) ^^^ b = b := by rw [h3, BitVec.zero_xor]
  rwa [BitVec.xor_assoc, BitVec.xor_self, BitVec.xor_zero] at h4
/-- A byte as the state's first bits. -/
def top (b : UInt8) : BitVec 32 := (b.toBitVec.setWidth 32) <<< 24
theorem top_xor (a b : UInt8) : top (a ^^^ b) = top a ^^^ top b := by
  unfold top
  rw [UInt8.toBitVec_xor, BitVec.setWidth_xor, BitVec.shiftLeft_xor_distrib]
def st (c : BitVec 32) (b : UInt8) : BitVec 32 := steps 8 (c ^^^ top b)
def sum (c : BitVec 32) (l : List UInt8) : BitVec 32 := l.foldl st c
theorem sum_nil (c : BitVec 32) : sum c [] = c := rfl
theorem sum_cons (c : BitVec 32) (b : UInt8) (l : List UInt8) : sum c (b :: l) = sum (st c b) l := rfl
theorem sum_append (c : BitVec 32) (a b : List UInt8) : sum c (a ++ b) = sum (sum c a) b := List.foldl_append
/-- Add of the document. -/
def add (c : BitVec 32) (l : List UInt8) : BitVec 32 := ~~~ sum (~~~ c) l
theorem add_nil (c : BitVec 32) : add c [] = c := by simp [add, sum_nil]
theorem add_append (c : BitVec 32) (a b : List UInt8) : add c (a ++ b) = add (add c a) b := by simp [add, sum_append]
theorem regroup2 (c d t : BitVec 32) : c ^^^ d ^^^ t = c ^^^ t ^^^ d := by ac_rfl
theorem regroup3 (a b c x y z : BitVec 32) : a ^^^ b ^^^ c ^^^ (x ^^^ y ^^^ z) = a ^^^ x ^^^ (b ^^^ y) ^^^ (c ^^^ z) := by ac_rfl
theorem st_off (c d : BitVec 32) (b : UInt8) : st (c ^^^ d) b = st c b ^^^ steps 8 d := by
  show steps 8 _ = steps 8 _ ^^^ _
  rw [← steps_xor, regroup2 c d]
theorem sum_off : ∀ (l : List UInt8) (c d : BitVec 32), sum (c ^^^ d) l = sum c l ^^^ steps (8 * l.length) d
  | [], c, d => rfl
  | b :: l, c, d => by
    rw [sum_cons, sum_cons, st_off, sum_off l, List.length_cons, ← steps_add]
    congr 2
    omega
theorem add_inj (l : List UInt8) {a b : BitVec 32} (h : add a l = add b l) : a = b := by
  unfold add at h
  have h1 : sum (~~~a) l = sum (~~~b) l := by have := congrArg (fun x => ~~~x) h; simpa using this
  have h2 := sum_off l (~~~a) ((~~~a) ^^^ (~~~b))
  rw [← BitVec.xor_assoc, BitVec.xor_self, BitVec.zero_xor, ← h1] at h2
  have h3 : steps (8 * l.length) ((~~~a) ^^^ (~~~b)) = 0#32 := by
    have := congrArg (fun x => sum (~~~a) l ^^^ x) h2
    simp only [← BitVec.xor_assoc, BitVec.xor_self, BitVec.zero_xor] at this
    exact this.symm
  have h4 := steps_eq_zero _ _ h3
  have h5 : ((~~~a) ^^^ (~~~b)) ^^^ (~~~b) = ~~~b := by rw [h4, BitVec.zero_xor]
  rw [BitVec.xor_assoc, BitVec.xor_self, BitVec.xor_zero] at h5
  have := congrArg (fun x => ~~~x) h5
  simpa using this
/-- Three texts of one length put together. -/
def xor3 : List UInt8 → List UInt8 → List UInt8 → List UInt8
  | a :: x, b :: y, c :: z => (a ^^^ b ^^^ c) :: xor3 x y z
  | _, _, _ => []
theorem st_xor3 (c1 c2 c3 : BitVec 32) (a b d : UInt8) : st (c1 ^^^ c2 ^^^ c3) (a ^^^ b ^^^ d) = st c1 a ^^^ st c2 b ^^^ st c3 d := by
  show steps 8 _ = steps 8 _ ^^^ steps 8 _ ^^^ steps 8 _
  rw [← steps_xor, ← steps_xor, top_xor, top_xor, regroup3]
theorem sum_xor3 : ∀ (x y z : List UInt8) (c1 c2 c3 : BitVec 32), x.length = y.length → y.length = z.length →
    sum (c1 ^^^ c2 ^^^ c3) (xor3 x y z) = sum c1 x ^^^ sum c2 y ^^^ sum c3 z
  | [], [], [], _, _, _, _, _ => rfl
  | a :: x, b :: y, c :: z, c1, c2, c3, h1, h2 => by
    rw [xor3, sum_cons, st_xor3, sum_xor3 x y z _ _ _ (by simpa using h1) (by simpa using h2)]
    rfl
  | [], _ :: _, _, _, _, _, h, _ => by simp at h
  | _ :: _, [], _, _, _, _, h, _ => by simp at h
  | _ :: _, _ :: _, [], _, _, _, _, h => by simp at h
  | [], [], _ :: _, _, _, _, _, h => by simp at h
theorem add_xor3 (x y z : List UInt8) (h1 : x.length = y.length) (h2 : y.length = z.length) :
    add 0 (xor3 x y z) = add 0 x ^^^ add 0 y ^^^ add 0 z := by
  unfold add
  have e : (~~~(0#32)) = (~~~(0#32)) ^^^ (~~~(0#32)) ^^^ (~~~(0#32)) := by decide
  have h := sum_xor3 x y z (~~~(0#32)) (~~~(0#32)) (~~~(0#32)) h1 h2
  rw [← e] at h
  show ~~~ sum (~~~(0#32)) _ = _
  rw [h]
  apply BitVec.eq_of_getLsbD_eq
  intro i hi
  simp [hi]
/-- What four steps make of a number: its last 28 bits go up, its first four are looked up. -/
def tab : List (BitVec 32) := [0x00000000#32, 0x04c11db7#32, 0x09823b6e#32, 0x0d4326d9#32, 0x130476dc#32, 0x17c56b6b#32, 0x1a864db2#32, 0x1e475005#32,
  0x2608edb8#32, 0x22c9f00f#32, 0x2f8ad6d6#32, 0x2b4bcb61#32, 0x350c9b64#32, 0x31cd86d3#32, 0x3c8ea00a#32, 0x384fbdbd#32]
theorem step_low (x : BitVec 32) (h : x.msb = false) : step x = x <<< 1 := by
  unfold step; rw [h]; simp
theorem steps_low (x : BitVec 32) (h : x >>> 28 = 0#32) : steps 4 x = x <<< 4 := by
  have hb : ∀ i, 28 ≤ i → x.getLsbD i = false := by
    intro i hi
    have := congrArg (fun y => y.getLsbD (i - 28)) h
    simp at this
    rwa [show 28 + (i - 28) = i by omega] at this
  have m0 : x.msb = false := by rw [BitVec.msb_eq_getLsbD_last]; exact hb 31 (by omega)
  have m1 : (x <<< 1).msb = false := by rw [BitVec.msb_eq_getLsbD_last]; have := hb 30 (by omega); simp; exact this
  have m2 : (x <<< 2).msb = false := by rw [BitVec.msb_eq_getLsbD_last]; have := hb 29 (by omega); simp; exact this
  have m3 : (x <<< 3).msb = false := by rw [BitVec.msb_eq_getLsbD_last]; have := hb 28 (by omega); simp; exact this
  simp only [steps]
  rw [step_low x m0, step_low _ m1, ← BitVec.shiftLeft_add, step_low _ m2, ← BitVec.shiftLeft_add, step_low _ m3, ← BitVec.shiftLeft_add]
theorem tab_steps : ∀ k : Fin 16, steps 4 ((BitVec.ofNat 32 k.val) <<< 28) = tab.getD k.val 0#32 := by decide +kernel
theorem four_eq (c : BitVec 32) : (c <<< 4) ^^^ tab.getD (c.toNat / 268435456) 0#32 = steps 4 c := by
  have hk : c.toNat / 268435456 < 16 := by have := c.isLt; omega
  have e : c = ((c <<< 4) >>> 4) ^^^ ((BitVec.ofNat 32 (c.toNat / 268435456)) <<< 28) := by
    have e0 : BitVec.ofNat 32 (c.toNat / 268435456) = c >>> 28 := by
      apply BitVec.eq_of_toNat_eq
      simp [Nat.shiftRight_eq_div_pow]
      omega
    rw [e0]
    apply BitVec.eq_of_getLsbD_eq
    intro i hi
    simp [hi]
    by_cases h28 : i < 28
    · have h1 : 4 + i < 32 := by omega
      simp [h28, h1]
    · have h1 : ¬ 4 + i < 32 := by omega
      simp [h28, h1, show 28 + (i - 28) = i by omega, BitVec.getLsbD_eq_getElem hi]
  have h1 := tab_steps ⟨_, hk⟩
  simp only at h1
  rw [← h1]
  conv => rhs; rw [e]
  rw [steps_xor, steps_low ((c <<< 4) >>> 4)]
  · congr 1
    apply BitVec.eq_of_getLsbD_eq
    intro i hi
    simp [hi]
    by_cases h4 : i < 4
    · simp [h4]
    · have e1 : 4 + (i - 4) = i := by omega
      have e2 : i - 4 < 32 := by omega
      simp [h4, e1, hi, BitVec.getLsbD_eq_getElem e2]
  · apply BitVec.eq_of_getLsbD_eq
    intro i hi
    simp

/-! ### one bit turned -/
theorem mask_steps : ∀ r : Fin 8, steps 8 (top (UInt8.ofNat (128 >>> r.val))) = steps (8 - r.val) 0x80000000#32 := by decide +kernel
/-- The bit k of a text, counted from the first byte's greatest one on, is turned. -/
def turn (l : List UInt8) (k : Nat) : List UInt8 := l.set (k / 8) (l.getD (k / 8) 0 ^^^ UInt8.ofNat (128 >>> (k % 8)))
theorem turn_length (l : List UInt8) (k : Nat) : (turn l k).length = l.length := by simp [turn]
theorem st_turn (c : BitVec 32) (b m : UInt8) : st c (b ^^^ m) = st c b ^^^ steps 8 (top m) := by
  show steps 8 _ = steps 8 _ ^^^ _
  rw [← steps_xor, top_xor, BitVec.xor_assoc]
theorem sum_turn (l : List UInt8) (k : Nat) (hk : k < 8 * l.length) (c : BitVec 32) :
    sum c (turn l k) = sum c l ^^^ steps (8 * l.length - k) 0x80000000#32 := by
  have h8 : k / 8 < l.length := by omega
  have e1 : turn l k = l.take (k / 8) ++ (l[k / 8] ^^^ UInt8.ofNat (128 >>> (k % 8))) :: l.drop (k / 8 + 1) := by
    rw [turn, List.set_eq_take_append_cons_drop, if_pos h8]
    simp [List.getD, h8]
  have e2 : l = l.take (k / 8) ++ l[k / 8] :: l.drop (k / 8 + 1) := by
    rw [List.getElem_cons_drop]
    exact (List.take_append_drop _ _).symm
  have h3 := mask_steps ⟨k % 8, Nat.mod_lt _ (by omega)⟩
  simp only at h3
  rw [e1, sum_append, sum_cons, st_turn, h3, sum_off, ← steps_add]
  conv => rhs; rw [e2, sum_append, sum_cons]
  congr 2
  simp
  omega
/-- What a row of 32 bits, the first one at bit 0 of the number, is in a state. -/
def rev (w : Nat) : Nat → BitVec 32
  | 0 => 0#32
  | i + 1 => rev w i ^^^ (if w.testBit i then 0x80000000#32 >>> i else 0#32)
theorem rev_bit (w : Nat) : ∀ i, i ≤ 32 → ∀ j, j < 32 → (rev w i).getLsbD (31 - j) = (decide (j < i) && w.testBit j)
  | 0, _, j, hj => by simp [rev]
  | i + 1, hi, j, hj => by
    rw [rev, BitVec.getLsbD_xor, rev_bit w i (by omega) j hj]
    have hs : (0x80000000#32 >>> i).getLsbD (31 - j) = decide (j = i) := by
      rw [BitVec.getLsbD_ushiftRight, show (0x80000000#32) = BitVec.twoPow 32 31 by decide, BitVec.getLsbD_twoPow]
      by_cases e : j = i
      · subst e; simp; omega
      · simp [e]; omega
    by_cases e : j = i
    · subst e
      by_cases hb : w.testBit j
      · rw [if_pos hb, hs]; simp [hb]
      · rw [if_neg hb]; simp [hb]
    · have e2 : decide (j < i + 1) = decide (j < i) := by
        rw [decide_eq_decide]; omega
      by_cases hb : w.testBit i
      · rw [if_pos hb, hs, e2]; simp [e]
      · rw [if_neg hb, e2]; simp
theorem rev_zero (w : Nat) (hw : w < 4294967296) (h : rev w 32 = 0#32) : w = 0 := by
  apply Nat.eq_of_testBit_eq
  intro j
  rw [Nat.zero_testBit]
  by_cases hj : j < 32
  · have := rev_bit w 32 (Nat.le_refl _) j hj
    rw [h] at this
    simpa [hj] using this.symm
  · exact Nat.testBit_lt_two_pow (Nat.lt_of_lt_of_le hw (by
      have : (2 : Nat) ^ 32 ≤ 2 ^ j := Nat.pow_le_pow_right (by omega) (by omega)
      exact this))
theorem high_steps : ∀ i : Fin 32, steps 32 (0x80000000#32 >>> i.val) = steps (32 - i.val) 0x80000000#32 := by decide +kernel
/-- Of 32 bits from bit n on the first i ones are turned, where w says so. -/
def burst (l : List UInt8) (n w : Nat) : Nat → List UInt8
  | 0 => l
  | i + 1 => if w.testBit i then turn (burst l n w i) (n + i) else burst l n w i
theorem burst_length (l : List UInt8) (n w : Nat) : ∀ i, (burst l n w i).length = l.length
  | 0 => rfl
  | i + 1 => by
    rw [burst]
    split
    · rw [turn_length, burst_length l n w i]
    · exact burst_length l n w i
theorem sum_burst (l : List UInt8) (n w : Nat) (hn : n + 32 ≤ 8 * l.length) (c : BitVec 32) : ∀ i, i ≤ 32 →
    sum c (burst l n w i) = sum c l ^^^ steps (8 * l.length - n - 32) (steps 32 (rev w i))
  | 0, _ => by rw [burst, rev, steps_zero, steps_zero, BitVec.xor_zero]
  | i + 1, hi => by
    have ih := sum_burst l n w hn c i (by omega)
    by_cases hb : w.testBit i
    · rw [burst, if_pos hb, sum_turn _ _ (by rw [burst_length]; omega), ih, rev, if_pos hb, steps_xor 32, steps_xor, ← BitVec.xor_assoc, burst_length]
      congr 1
      have h := high_steps ⟨i, by omega⟩
      simp only at h
      rw [h, ← steps_add]
      congr 1
      omega
    · rw [burst, if_neg hb, ih, rev, if_neg hb, BitVec.xor_zero]
/-- A burst of up to 32 bits is found. -/
theorem burst_found (l : List UInt8) (n w : Nat) (hn : n + 32 ≤ 8 * l.length) (hw : w < 4294967296) (h0 : w ≠ 0) (c : BitVec 32) :
    add c (burst l n w 32) ≠ add c l := by
  intro h
  have h1 : sum (~~~ c) (burst l n w 32) = sum (~~~ c) l := by
    have := congrArg (fun x => ~~~ x) h
    simpa [add] using this
  have h2 := sum_burst l n w hn (~~~ c) 32 (Nat.le_refl _)
  rw [h1] at h2
  have h3 := congrArg (fun x => sum (~~~ c) l ^^^ x) h2
  simp only [← BitVec.xor_assoc, BitVec.xor_self, BitVec.zero_xor] at h3
  exact h0 (rev_zero w hw (steps_eq_zero _ _ (steps_eq_zero _ _ h3.symm)))
end Go.Proofs.YtgncmgchoogmpaaDoor.Crc
