/- Plain: what is read of bytes as a view, by the program's way; a view's bytes are read as that view. -/
import Derived.Test.YtnbhjehaecifcaaByt06
namespace Go.Proofs.Ytnbhjehaecifcaa
open Go.RowKit

section
variable {α : Type}
/-- What is left behind k readings. -/
def restF (f : List UInt8 → List UInt8) : Nat → List UInt8 → List UInt8
  | 0, l => l
  | k + 1, l => f (restF f k l)
/-- What k readings tell. -/
def rowF (v : List UInt8 → α) (f : List UInt8 → List UInt8) (k : Nat) (l : List UInt8) : List α := (List.range k).map fun i => v (restF f i l)
theorem rest_shift (f : List UInt8 → List UInt8) : ∀ k l, restF f (k + 1) l = restF f k (f l)
  | 0, _ => rfl
  | k + 1, l => by rw [restF, rest_shift f k l]; rfl
theorem row_len (v : List UInt8 → α) (f : List UInt8 → List UInt8) (k : Nat) (l : List UInt8) : (rowF v f k l).length = k := by simp [rowF]
theorem row_next (v : List UInt8 → α) (f : List UInt8 → List UInt8) (k : Nat) (l : List UInt8) : rowF v f (k + 1) l = rowF v f k l ++ [v (restF f k l)] := by simp [rowF, List.range_succ]
theorem row_cons (v : List UInt8 → α) (f : List UInt8 → List UInt8) (k : Nat) (l : List UInt8) : rowF v f (k + 1) l = v l :: rowF v f k (f l) := by
  unfold rowF
  rw [List.range_succ_eq_map, List.map_cons, List.map_map]
  congr 1
  refine List.map_congr_left fun i _ => ?_
  show v (restF f (i + 1) l) = _
  rw [rest_shift]
theorem row_back (v : List UInt8 → α) (f : List UInt8 → List UInt8) (enc : α → List UInt8) : ∀ (L : List α) (rest : List UInt8), (∀ x ∈ L, ∀ r, v (enc x ++ r) = x ∧ f (enc x ++ r) = r) →
    restF f L.length ((L.map enc).flatten ++ rest) = rest ∧ rowF v f L.length ((L.map enc).flatten ++ rest) = L
  | [], rest, _ => ⟨by simp [restF], rfl⟩
  | x :: L, rest, h => by
    obtain ⟨h1, h2⟩ := h x (by simp) ((L.map enc).flatten ++ rest)
    obtain ⟨i1, i2⟩ := row_back v f enc L rest (fun y hy => h y (by simp [hy]))
    rw [List.map_cons, List.flatten_cons, List.append_assoc, List.length_cons, rest_shift, row_cons, h1, h2]
    exact ⟨i1, by rw [i2]⟩
end
def i8 (l : List UInt8) : Int := (eightV l 1099511627776 : Nat)
def r8 (l : List UInt8) : List UInt8 := eightL l 1099511627776
def i2 (l : List UInt8) : Int := (textN l : Nat)
def r2 (l : List UInt8) : List UInt8 := takeL l 2
def dV (l : List UInt8) : Mb := (i2 l, i8 (r2 l), false)
def dR (l : List UInt8) : List UInt8 := r8 (r2 l)
def mV (l : List UInt8) : Mb := (i2 l, i8 (r2 l), i2 (dR l) == 1)
def mR (l : List UInt8) : List UInt8 := r2 (dR l)
theorem i8_put (z : Int) (h0 : 0 ≤ z) (h1 : z ≤ 1099511627776) (r : List UInt8) : i8 (be 8 z.toNat ++ r) = z ∧ r8 (be 8 z.toNat ++ r) = r := by
  obtain ⟨a, b, _⟩ := eight_put z.toNat r 1099511627776 (by omega) (by omega)
  exact ⟨by rw [i8, a]; omega, b⟩
theorem i2_put (z : Int) (h0 : 0 ≤ z) (h1 : z < 65536) (r : List UInt8) : i2 (be 2 z.toNat ++ r) = z ∧ r2 (be 2 z.toNat ++ r) = r := by
  obtain ⟨a, b, _⟩ := take_put 2 z.toNat r (by omega)
  exact ⟨by rw [i2, textN, a]; omega, b⟩
theorem n2_put (n : Nat) (h1 : n < 65536) (r : List UInt8) : textN (be 2 n ++ r) = n ∧ r2 (be 2 n ++ r) = r := by
  obtain ⟨a, b, _⟩ := take_put 2 n r (by omega)
  exact ⟨a, b⟩
def pL2 (s : List UInt8) : List UInt8 := r8 (r2 s)
def pIncs (s : List UInt8) : List Int := if textN s ≤ 8 then rowF i8 r8 (textN s) (pL2 s) else []
def pL3 (s : List UInt8) : List UInt8 := if textN s ≤ 8 then restF r8 (textN s) (pL2 s) else pL2 s
def pMem (s : List UInt8) : List Mb := if textN (pL3 s) ≤ 8 then rowF mV mR (textN (pL3 s)) (r2 (pL3 s)) else []
def pL5 (s : List UInt8) : List UInt8 := if textN (pL3 s) ≤ 8 then restF mR (textN (pL3 s)) (r2 (pL3 s)) else r2 (pL3 s)
def pDead (s : List UInt8) : List Mb := if textN (pL5 s) ≤ 20 then rowF dV dR (textN (pL5 s)) (r2 (pL5 s)) else []
/-- The view that is read. -/
def parseV (s : List UInt8) : Vw := ⟨i2 s, i8 (r2 s), pMem s, pDead s, pIncs s⟩
/-- Is it what s says? -/
def readB (s : List UInt8) : Bool := chkB (parseV s) && (bytesL (parseV s) == s)
theorem rise_len6 : ∀ (l : List Mb) (a n : Int), l.Pairwise (fun x y => x.1 < y.1) → (∀ m ∈ l, a ≤ m.1 ∧ m.1 < n) → a ≤ n → (l.length : Int) ≤ n - a
  | [], a, n, _, _, h => by simp; omega
  | m :: l, a, n, hp, hm, _ => by
    rw [List.pairwise_cons] at hp
    have h1 := hm m (by simp)
    have := rise_len6 l (m.1 + 1) n hp.2 (fun x hx => ⟨by have := hp.1 x hx; omega, (hm x (by simp [hx])).2⟩) (by omega)
    rw [List.length_cons]
    omega
theorem ok_mem8 {V : Vw} (h : Ok V) : V.mem.length ≤ 8 := by
  have := rise_len6 V.mem 0 V.nodes h.mp (fun m hm => ⟨(h.mm m hm).1, (h.mm m hm).2.1⟩) (by have := h.n1; omega)
  have := h.n8
  omega
theorem dV_put {V : Vw} (h : Ok V) {m : Mb} (hm : m ∈ V.dead) (r : List UInt8) : dV (bD m ++ r) = m ∧ dR (bD m ++ r) = r := by
  obtain ⟨h0, h1, h2, h3, h4, _⟩ := h.dd m hm
  have hq := incAt_mem h h0 h1
  obtain ⟨a, b⟩ := i2_put m.1 h0 (by have := h.n8; omega) (be 8 m.2.1.toNat ++ r)
  obtain ⟨c, d⟩ := i8_put m.2.1 (by omega) (by omega) r
  have e : bD m ++ r = be 2 m.1.toNat ++ (be 8 m.2.1.toNat ++ r) := by simp [bD]
  rw [dV, dR, e, a, b, c, d, ← h4]
  exact ⟨rfl, rfl⟩
theorem mV_put {V : Vw} (h : Ok V) {m : Mb} (hm : m ∈ V.mem) (r : List UInt8) : mV (bM m ++ r) = m ∧ mR (bM m ++ r) = r := by
  obtain ⟨h0, h1, h2, h3⟩ := h.mm m hm
  have hq := incAt_mem h h0 h1
  obtain ⟨a, b⟩ := i2_put m.1 h0 (by have := h.n8; omega) (be 8 m.2.1.toNat ++ (be 2 (bN m.2.2) ++ r))
  obtain ⟨c, d⟩ := i8_put m.2.1 (by omega) (by omega) (be 2 (bN m.2.2) ++ r)
  obtain ⟨f, g⟩ := i2_put (bN m.2.2 : Nat) (by omega) (by unfold bN; split <;> omega) r
  rw [Int.toNat_natCast] at f g
  have e : bM m ++ r = be 2 m.1.toNat ++ (be 8 m.2.1.toNat ++ (be 2 (bN m.2.2) ++ r)) := by simp [bM]
  rw [mV, mR, dR, e, a, b, c, d, f, g]
  refine ⟨?_, rfl⟩
  obtain ⟨m1, m2, m3⟩ := m
  cases m3 <;> rfl
theorem parse_bytes {V : Vw} (h : Ok V) : parseV (bytesL V) = V := by
  have hn := h.n8
  have hn1 := h.n1
  have hl := h.len
  have h8 := ok_mem8 h
  have h20 := h.dl
  have e : bytesL V = be 2 V.nodes.toNat ++ (be 8 V.epoch.toNat ++ (catI V.incs ++ (be 2 V.mem.length ++ (catM V.mem ++ (be 2 V.dead.length ++ (catD V.dead ++ [])))))) := by simp [bytesL, head3, head2, head1]
  obtain ⟨a1, a2⟩ := i2_put V.nodes (by omega) (by omega) (be 8 V.epoch.toNat ++ (catI V.incs ++ (be 2 V.mem.length ++ (catM V.mem ++ (be 2 V.dead.length ++ (catD V.dead ++ []))))))
  obtain ⟨b1, b2⟩ := i8_put V.epoch h.e0 h.e1 (catI V.incs ++ (be 2 V.mem.length ++ (catM V.mem ++ (be 2 V.dead.length ++ (catD V.dead ++ [])))))
  obtain ⟨c1, c2⟩ := row_back i8 r8 b8 V.incs (be 2 V.mem.length ++ (catM V.mem ++ (be 2 V.dead.length ++ (catD V.dead ++ [])))) (fun z hz r => i8_put z (h.inc z hz).1 (h.inc z hz).2 r)
  obtain ⟨d1, d2⟩ := n2_put V.mem.length (by omega) (catM V.mem ++ (be 2 V.dead.length ++ (catD V.dead ++ [])))
  obtain ⟨f1, f2⟩ := row_back mV mR bM V.mem (be 2 V.dead.length ++ (catD V.dead ++ [])) (fun m hm r => mV_put h hm r)
  obtain ⟨g1, g2⟩ := n2_put V.dead.length (by omega) (catD V.dead ++ [])
  obtain ⟨k1, k2⟩ := row_back dV dR bD V.dead [] (fun m hm r => dV_put h hm r)
  have t0 : textN (bytesL V) = V.incs.length := by
    have : (textN (bytesL V) : Int) = V.nodes := by rw [e]; exact a1
    omega
  have q2 : pL2 (bytesL V) = catI V.incs ++ (be 2 V.mem.length ++ (catM V.mem ++ (be 2 V.dead.length ++ (catD V.dead ++ [])))) := by rw [pL2, e, a2, b2]
  have q3 : pL3 (bytesL V) = be 2 V.mem.length ++ (catM V.mem ++ (be 2 V.dead.length ++ (catD V.dead ++ []))) := by rw [pL3, t0, if_pos (by omega), q2]; exact c1
  have q5 : pL5 (bytesL V) = be 2 V.dead.length ++ (catD V.dead ++ []) := by rw [pL5, q3, d1, if_pos h8, d2]; exact f1
  have w1 : pIncs (bytesL V) = V.incs := by rw [pIncs, t0, if_pos (by omega), q2]; exact c2
  have w2 : pMem (bytesL V) = V.mem := by rw [pMem, q3, d1, if_pos h8, d2]; exact f2
  have w3 : pDead (bytesL V) = V.dead := by rw [pDead, q5, g1, if_pos h20, g2]; exact k2
  rw [parseV, w1, w2, w3, e, a1, a2, b1]
theorem read_bytes {V : Vw} (h : chkB V = true) : readB (bytesL V) = true ∧ parseV (bytesL V) = V := by
  have e := parse_bytes ((ok_iff V).1 h)
  exact ⟨by rw [readB, e, h]; simp, e⟩
end Go.Proofs.Ytnbhjehaecifcaa
