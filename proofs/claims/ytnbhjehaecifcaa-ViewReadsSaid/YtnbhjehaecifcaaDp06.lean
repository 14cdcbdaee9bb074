/- Plain: the document's way to read a view: what is told of its three loops. -/
import Derived.Test.YtnbhjehaecifcaaRp06
namespace Go.Proofs.Ytnbhjehaecifcaa
open Go.RowKit

theorem be_num' : ∀ (k : Nat) (l : List UInt8), l.length = k → be k (num l) = l
  | 0, l, h => by rw [List.length_eq_zero_iff.1 h]; rfl
  | k + 1, l, h => by
    have hne : l ≠ [] := by intro e; rw [e] at h; simp at h
    have e := List.dropLast_concat_getLast hne
    have hk : l.dropLast.length = k := by simp [h]
    have ih := be_num' k l.dropLast hk
    have hb := (l.getLast hne).toNat_lt
    rw [← e, num_snoc, be]
    have e1 : (num l.dropLast * 256 + (l.getLast hne).toNat) / 256 = num l.dropLast := by omega
    rw [e1, ih]
    congr 1
    have : UInt8.ofNat (num l.dropLast * 256 + (l.getLast hne).toNat) = l.getLast hne := by
      apply UInt8.toNat_inj.1
      rw [UInt8.toNat_ofNat']
      omega
    rw [this]
theorem be_num (l : List UInt8) : be l.length (num l) = l := be_num' _ l rfl
/-- What was read so far, and what is left. -/
def Rdg (s pre l : List UInt8) (b : Bool) : Prop := b = false → s = pre ++ l
theorem Rdg.two {s pre l : List UInt8} {b : Bool} (h : Rdg s pre l b) : Rdg s (pre ++ be 2 (textN l)) (takeL l 2) (takeB l b 2) := by
  intro hb
  rw [takeB] at hb
  split at hb
  · next e =>
    have e2 : be 2 (textN l) = l.take 2 := by
      have := be_num (l.take 2)
      rw [List.length_take, Nat.min_eq_left e] at this
      rw [textN, takeS, if_pos e, this]
    rw [h hb, e2, takeL, if_pos e, List.append_assoc, List.take_append_drop]
  · exact absurd hb (by simp)
theorem Rdg.eight {s pre l : List UInt8} {b : Bool} {most : Int} (h : Rdg s pre l b) : Rdg s (pre ++ be 8 (eightV l most)) (eightL l most) (eightB l b most) := by
  intro hb
  rw [eightB] at hb
  split at hb
  · next eo =>
    rw [takeB] at hb
    split at hb
    · next e =>
      have e2 : be 8 (eightV l most) = l.take 8 := by
        have := be_num (l.take 8)
        rw [List.length_take, Nat.min_eq_left e] at this
        rw [eightV, if_pos eo, takeS, if_pos e, this]
      rw [h hb, e2, eightL, if_pos eo, takeL, if_pos e, List.append_assoc, List.take_append_drop]
    · exact absurd hb (by simp)
  · exact absurd hb (by simp)
theorem Rdg.bad {s pre l : List UInt8} : Rdg s pre l true := fun h => absurd h (by simp)
theorem Rdg.eq {s pre pre' l : List UInt8} {b : Bool} (h : Rdg s pre l b) (e : pre = pre') : Rdg s pre' l b := e ▸ h
theorem take_put' (n : Nat) (rest : List UInt8) (hn : n < 65536) (br : Bool) : textN (be 2 n ++ rest) = n ∧ takeL (be 2 n ++ rest) 2 = rest ∧ takeB (be 2 n ++ rest) br 2 = br := by
  obtain ⟨a, b, c⟩ := take_put 2 n rest (by omega)
  exact ⟨a, b, c br⟩
def tail3 (V : Vw) : List UInt8 := be 2 V.dead.length ++ catD V.dead
def tail2 (V : Vw) : List UInt8 := be 2 V.mem.length ++ (catM V.mem ++ tail3 V)
def tail1 (V : Vw) : List UInt8 := be 8 V.epoch.toNat ++ (catI V.incs ++ tail2 V)
theorem bytes_tail (V : Vw) : bytesL V = be 2 V.nodes.toNat ++ tail1 V := by simp [bytesL, head3, head2, head1, tail1, tail2, tail3]
theorem catI_cons (z : Int) (l : List Int) : catI (z :: l) = be 8 z.toNat ++ catI l := rfl
theorem catM_cons (m : Mb) (l : List Mb) : catM (m :: l) = bM m ++ catM l := rfl
theorem catD_cons (m : Mb) (l : List Mb) : catD (m :: l) = bD m ++ catD l := rfl
/-- The document's reading, between the incarnations. -/
structure LI (s : List UInt8) (k : Nat) (L : List Int) (l : List UInt8) (b : Bool) : Prop where
  len : L.length = k
  low : ∀ z ∈ L, 0 ≤ z
  rd : Rdg s (be 2 (textN s) ++ be 8 (eightV (takeL s 2) (1099511627776 : Int)) ++ catI L) l b
  ok : ∀ V, Ok V → s = bytesL V → b = false ∧ L = V.incs.take k ∧ l = catI (V.incs.drop k) ++ tail2 V
theorem heads {s : List UInt8} {V : Vw} (h : Ok V) (e : s = bytesL V) (br : Bool) :
    (textN s : Int) = V.nodes ∧ takeL s 2 = tail1 V ∧ takeB s br 2 = br ∧ (eightV (takeL s 2) (1099511627776 : Int) : Int) = V.epoch ∧ eightL (takeL s 2) (1099511627776 : Int) = catI V.incs ++ tail2 V ∧ eightB (takeL s 2) (takeB s br 2) (1099511627776 : Int) = br := by
  have hn := h.n8
  have hn1 := h.n1
  have h0 := h.e0
  have h1 := h.e1
  obtain ⟨a, b, c⟩ := take_put' V.nodes.toNat (tail1 V) (by omega) br
  rw [← bytes_tail, ← e] at a b c
  obtain ⟨d, f, g⟩ := eight_put V.epoch.toNat (catI V.incs ++ tail2 V) (1099511627776 : Int) (by omega) (by omega)
  rw [b, c]
  have q : tail1 V = be 8 V.epoch.toNat ++ (catI V.incs ++ tail2 V) := rfl
  rw [q, d, f, g br]
  exact ⟨by omega, rfl, rfl, by omega, rfl, rfl⟩
theorem LI.start {s : List UInt8} : LI s 0 [] (eightL (takeL s 2) (1099511627776 : Int)) (eightB (takeL s 2) (takeB s false 2) (1099511627776 : Int)) := by
  refine ⟨rfl, by simp, ?_, fun V h e => ?_⟩
  · have h0 : Rdg s [] s false := fun _ => rfl
    exact (h0.two.eight (most := (1099511627776 : Int))).eq (by simp [catI])
  · obtain ⟨_, _, _, _, b, c⟩ := heads h e false
    exact ⟨c, by simp, by rw [b]; simp⟩
theorem LI.next {s : List UInt8} {k : Nat} {L : List Int} {l : List UInt8} {b : Bool} (h : LI s k L l b) (hk : (k : Int) < textN s) (_h8 : k < 8) :
    LI s (k + 1) (L ++ [(eightV l (1099511627776 : Int) : Int)]) (eightL l (1099511627776 : Int)) (eightB l b (1099511627776 : Int)) := by
  refine ⟨by simp [h.len], fun z hz => ?_, ?_, fun V hV e => ?_⟩
  · rcases List.mem_append.1 hz with hz | hz
    · exact h.low z hz
    · rw [List.mem_singleton.1 hz]; omega
  · exact (h.rd.eight (most := (1099511627776 : Int))).eq (by simp [catI, b8])
  · obtain ⟨hb, hL, hl⟩ := h.ok V hV e
    obtain ⟨hn, _⟩ := heads hV e false
    have hlen := hV.len
    have hk' : k < V.incs.length := by omega
    have hz := hV.inc V.incs[k] (List.getElem_mem hk')
    have e1 : V.incs.drop k = V.incs[k] :: V.incs.drop (k + 1) := List.drop_eq_getElem_cons hk'
    have e2 : l = be 8 V.incs[k].toNat ++ (catI (V.incs.drop (k + 1)) ++ tail2 V) := by
      rw [hl, e1, catI_cons, List.append_assoc]
    obtain ⟨d, f, g⟩ := eight_put V.incs[k].toNat (catI (V.incs.drop (k + 1)) ++ tail2 V) (1099511627776 : Int) (by omega) (by omega)
    rw [e2, d, f, g b]
    refine ⟨hb, ?_, rfl⟩
    rw [hL, List.take_add_one, List.getElem?_eq_getElem hk']
    have : (V.incs[k].toNat : Int) = V.incs[k] := by omega
    rw [this]; rfl
/-- One that is ready or not, read. -/
theorem mem_put {V : Vw} (h : Ok V) {m : Mb} (hm : m ∈ V.mem) (r : List UInt8) (br : Bool) : textN (dR (bM m ++ r)) ≤ 1 ∧ takeB (dR (bM m ++ r)) (eightB (r2 (bM m ++ r)) (takeB (bM m ++ r) br 2) (1099511627776 : Int)) 2 = br := by
  obtain ⟨h0, h1, h2, h3⟩ := h.mm m hm
  have hq := incAt_mem h h0 h1
  have hn := h.n8
  have e : bM m ++ r = be 2 m.1.toNat ++ (be 8 m.2.1.toNat ++ (be 2 (bN m.2.2) ++ r)) := by simp [bM]
  obtain ⟨a, b, c⟩ := take_put' m.1.toNat (be 8 m.2.1.toNat ++ (be 2 (bN m.2.2) ++ r)) (by omega) br
  obtain ⟨d, f, g⟩ := eight_put m.2.1.toNat (be 2 (bN m.2.2) ++ r) (1099511627776 : Int) (by omega) (by omega)
  have hb : bN m.2.2 ≤ 1 := by unfold bN; split <;> omega
  obtain ⟨i, j, k⟩ := take_put' (bN m.2.2) r (by omega) br
  rw [e, dR, r2, r8, b, c, f, g br, i, k]
  exact ⟨hb, rfl⟩
theorem dead_put {V : Vw} (h : Ok V) {m : Mb} (hm : m ∈ V.dead) (r : List UInt8) (br : Bool) : eightB (r2 (bD m ++ r)) (takeB (bD m ++ r) br 2) (1099511627776 : Int) = br := by
  obtain ⟨h0, h1, h2, h3, h4, _⟩ := h.dd m hm
  have hq := incAt_mem h h0 h1
  have hn := h.n8
  have e : bD m ++ r = be 2 m.1.toNat ++ (be 8 m.2.1.toNat ++ r) := by simp [bD]
  obtain ⟨a, b, c⟩ := take_put' m.1.toNat (be 8 m.2.1.toNat ++ r) (by omega) br
  obtain ⟨d, f, g⟩ := eight_put m.2.1.toNat r (1099511627776 : Int) (by omega) (by omega)
  rw [e, r2, b, c, g br]
def pre2 (s : List UInt8) (L : List Int) (n : Nat) : List UInt8 := be 2 (textN s) ++ be 8 (eightV (takeL s 2) (1099511627776 : Int)) ++ catI L ++ be 2 n
/-- The document's reading, between the members. -/
structure LM (s : List UInt8) (L : List Int) (n k : Nat) (M : List Mb) (l : List UInt8) (b : Bool) : Prop where
  len : M.length = k
  le : k ≤ n
  rd : Rdg s (pre2 s L n ++ catM M) l b
  ok : ∀ V, Ok V → s = bytesL V → b = false ∧ L = V.incs ∧ n = V.mem.length ∧ M = V.mem.take k ∧ l = catM (V.mem.drop k) ++ tail3 V
theorem LM.start {s : List UInt8} {k : Nat} {L : List Int} {l : List UInt8} {b : Bool} (h : LI s k L l b) (hk : (textN s : Int) ≤ k ∨ 8 ≤ k) : LM s L (textN l) 0 [] (takeL l 2) (takeB l b 2) := by
  refine ⟨rfl, by omega, ?_, fun V hV e => ?_⟩
  · exact h.rd.two.eq (by simp [pre2, catM])
  · obtain ⟨hb, hL, hl⟩ := h.ok V hV e
    obtain ⟨hn, _⟩ := heads hV e false
    have hlen := hV.len
    have h8 := hV.n8
    have hm := ok_mem8 hV
    have hk' : V.incs.length ≤ k := by omega
    rw [List.drop_eq_nil_of_le hk'] at hl
    have hl' : l = be 2 V.mem.length ++ (catM V.mem ++ tail3 V) := by rw [hl]; rfl
    obtain ⟨a, c, d⟩ := take_put' V.mem.length (catM V.mem ++ tail3 V) (by omega) b
    rw [hl', a, c, d]
    exact ⟨hb, by rw [hL, List.take_of_length_le hk'], rfl, by simp, by simp⟩
theorem LM.good {s : List UInt8} {L : List Int} {n k : Nat} {M : List Mb} {l : List UInt8} {b : Bool} (h : LM s L n k M l b) (hk : k < n) (h1 : textN (dR l) ≤ 1) :
    LM s L n (k + 1) (M ++ [mV l]) (takeL (dR l) 2) (takeB (dR l) (eightB (r2 l) (takeB l b 2) (1099511627776 : Int)) 2) := by
  refine ⟨by simp [h.len], by omega, ?_, fun V hV e => ?_⟩
  · refine (h.rd.two.eight (most := (1099511627776 : Int))).two.eq ?_
    have e1 : bN (i2 (dR l) == 1) = textN (dR l) := by
      unfold i2 bN
      split
      · next q => have := beq_iff_eq.1 q; omega
      · next q => have : ¬ ((textN (dR l) : Int) = 1) := fun q' => q (by simp [q']); omega
    have e2 : catM (M ++ [mV l]) = catM M ++ bM (mV l) := by simp [catM]
    rw [e2, bM, mV]
    show _ = pre2 s L n ++ (catM M ++ (be 2 (i2 l).toNat ++ be 8 (i8 (r2 l)).toNat ++ be 2 (bN (i2 (dR l) == 1))))
    rw [e1]
    simp only [List.append_assoc]
    rfl
  · obtain ⟨hb, hL, hn, hM, hl⟩ := h.ok V hV e
    have hk' : k < V.mem.length := by omega
    rw [List.drop_eq_getElem_cons hk', catM_cons, List.append_assoc] at hl
    have hm := List.getElem_mem hk'
    obtain ⟨a, c⟩ := mV_put hV hm (catM (V.mem.drop (k + 1)) ++ tail3 V)
    obtain ⟨_, d⟩ := mem_put hV hm (catM (V.mem.drop (k + 1)) ++ tail3 V) b
    rw [← hl] at a c d
    rw [d, a]
    exact ⟨hb, hL, hn, by rw [hM, List.take_add_one, List.getElem?_eq_getElem hk']; rfl, c⟩
theorem LM.bad {s : List UInt8} {L : List Int} {n k : Nat} {M : List Mb} {l : List UInt8} {b : Bool} (h : LM s L n k M l b) (hk : k < n) (h1 : 1 < textN (dR l)) :
    LM s L n (k + 1) (M ++ [mV l]) [] true := by
  refine ⟨by simp [h.len], by omega, Rdg.bad, fun V hV e => ?_⟩
  obtain ⟨hb, hL, hn, hM, hl⟩ := h.ok V hV e
  have hk' : k < V.mem.length := by omega
  rw [List.drop_eq_getElem_cons hk', catM_cons, List.append_assoc] at hl
  obtain ⟨d, _⟩ := mem_put hV (List.getElem_mem hk') (catM (V.mem.drop (k + 1)) ++ tail3 V) b
  rw [← hl] at d
  omega
/-- The document's reading, between the dead. -/
structure LD (s : List UInt8) (L : List Int) (M : List Mb) (n k : Nat) (D : List Mb) (l : List UInt8) (b : Bool) : Prop where
  len : D.length = k
  le : k ≤ n
  rd : Rdg s (pre2 s L M.length ++ catM M ++ be 2 n ++ catD D) l b
  ok : ∀ V, Ok V → s = bytesL V → b = false ∧ L = V.incs ∧ M = V.mem ∧ n = V.dead.length ∧ D = V.dead.take k ∧ l = catD (V.dead.drop k)
theorem take_good {l : List UInt8} {b : Bool} {n : Nat} (h : takeB l b n = false) : b = false := by
  unfold takeB at h; split at h
  · exact h
  · exact absurd h (by simp)
theorem LD.start {s : List UInt8} {L : List Int} {n k : Nat} {M : List Mb} {l : List UInt8} {b : Bool} (h : LM s L n k M l b) (hk : n ≤ k ∨ b = true) : LD s L M (textN l) 0 [] (takeL l 2) (takeB l b 2) := by
  refine ⟨rfl, by omega, ?_, fun V hV e => ?_⟩
  · intro hb
    have hb0 := take_good hb
    have : M.length = n := by
      have := h.len; have := h.le
      rcases hk with q | q
      · omega
      · rw [q] at hb0; exact absurd hb0 (by simp)
    exact h.rd.two.eq (by simp [this, catD]) hb
  · obtain ⟨hb, hL, hn, hM, hl⟩ := h.ok V hV e
    have hkk : n ≤ k := by
      rcases hk with q | q
      · exact q
      · rw [q] at hb; exact absurd hb (by simp)
    have hd := hV.dl
    rw [List.drop_eq_nil_of_le (by omega)] at hl
    have hl' : l = be 2 V.dead.length ++ catD V.dead := by rw [hl]; rfl
    obtain ⟨a, c, d⟩ := take_put' V.dead.length (catD V.dead) (by omega) b
    rw [hl', a, c, d]
    exact ⟨hb, hL, by rw [hM, List.take_of_length_le (by omega)], rfl, by simp, by simp⟩
theorem LD.next {s : List UInt8} {L : List Int} {M : List Mb} {n k : Nat} {D : List Mb} {l : List UInt8} {b : Bool} (h : LD s L M n k D l b) (hk : k < n) :
    LD s L M n (k + 1) (D ++ [dV l]) (dR l) (eightB (r2 l) (takeB l b 2) (1099511627776 : Int)) := by
  refine ⟨by simp [h.len], by omega, ?_, fun V hV e => ?_⟩
  · refine (h.rd.two.eight (most := (1099511627776 : Int))).eq ?_
    have e2 : catD (D ++ [dV l]) = catD D ++ bD (dV l) := by simp [catD]
    rw [e2, bD, dV]
    simp only [List.append_assoc]
    rfl
  · obtain ⟨hb, hL, hM, hn, hD, hl⟩ := h.ok V hV e
    have hk' : k < V.dead.length := by omega
    rw [List.drop_eq_getElem_cons hk', catD_cons] at hl
    have hm := List.getElem_mem hk'
    obtain ⟨a, c⟩ := dV_put hV hm (catD (V.dead.drop (k + 1)))
    have d := dead_put hV hm (catD (V.dead.drop (k + 1))) b
    rw [← hl] at a c d
    rw [d, a]
    exact ⟨hb, hL, hM, hn, by rw [hD, List.take_add_one, List.getElem?_eq_getElem hk']; rfl, c⟩
def docV (s : List UInt8) (L : List Int) (M D : List Mb) : Vw := ⟨(textN s : Nat), (eightV (takeL s 2) (1099511627776 : Int) : Nat), M, D, L⟩
/-- What comes out of it: what the program's way tells. -/
theorem LD.fin {s : List UInt8} {L : List Int} {M : List Mb} {n k : Nat} {D : List Mb} {l : List UInt8} {b : Bool} (h : LD s L M n k D l b) (hk : n ≤ k ∨ b = true) :
    (readB s = true → b = false ∧ l = [] ∧ docV s L M D = parseV s) ∧ (b = false → l = [] → chkB (docV s L M D) = true → readB s = true) := by
  refine ⟨fun hr => ?_, fun hb hl hc => ?_⟩
  · rw [readB, Bool.and_eq_true] at hr
    obtain ⟨hc, he⟩ := hr
    have hV := (ok_iff _).1 hc
    have e := (beq_iff_eq.1 he).symm
    obtain ⟨hb, hL, hM, hn, hD, hl⟩ := h.ok _ hV e
    obtain ⟨e1, _, _, e2, _⟩ := heads hV e false
    have hkk : n ≤ k := by
      rcases hk with q | q
      · exact q
      · rw [q] at hb; exact absurd hb (by simp)
    rw [List.take_of_length_le (by omega)] at hD
    rw [List.drop_eq_nil_of_le (by omega)] at hl
    refine ⟨hb, hl, ?_⟩
    unfold docV
    rw [e1, e2, hL, hM, hD]
  · have hkk : D.length = n := by
      have := h.len; have := h.le
      rcases hk with q | q
      · omega
      · rw [q] at hb; exact absurd hb (by simp)
    have e : s = bytesL (docV s L M D) := by
      have := h.rd hb
      rw [hl] at this
      refine this.trans ?_
      simp only [bytesL, head3, head2, head1, docV, pre2, Int.toNat_natCast, List.append_nil, hkk]
    have := (read_bytes hc).1
    rwa [← e] at this
end Go.Proofs.Ytnbhjehaecifcaa
