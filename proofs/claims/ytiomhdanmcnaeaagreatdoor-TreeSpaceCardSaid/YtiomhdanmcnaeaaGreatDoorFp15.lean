/- Names are found, put and dropped, at this translation. -/
import Derived.Test.YtiomhdanmcnaeaaGreatDoorWt15
namespace Go.Proofs.YtiomhdanmcnaeaaGreatDoor
open Go.RowKit

/-! ### what is found -/
def isN (s : List UInt8) (e : Ent) : Bool := e.1 == s
def gtN (s : List UInt8) (e : Ent) : Bool := !(leB e.1 s)
def atN (l : List Ent) (s : List UInt8) : Nat := l.findIdx (isN s)
def behN (l : List Ent) (s : List UInt8) : Nat := l.findIdx (gtN s)
def findX (l : List Ent) (s : List UInt8) : Int := (l.getD (atN l s) ([], 0)).2
def findN (l : List Ent) (s : List UInt8) : Int × Bool := if atN l s < l.length then (findX l s, true) else (0, false)
def putN (l : List Ent) (e : Ent) : List Ent := if atN l e.1 < l.length then l.take (atN l e.1) ++ [e] ++ l.drop (atN l e.1 + 1) else l.take (behN l e.1) ++ [e] ++ l.drop (behN l e.1)
def dropN (l : List Ent) (s : List UInt8) : List Ent := if atN l s < l.length then l.take (atN l s) ++ [] ++ l.drop (atN l s + 1) else l
def hasN15 (l : List Ent) (s : List UInt8) : Bool := decide (atN l s < l.length)
theorem idx_of {p : Ent → Bool} {l : List Ent} {z : Nat} (hz : z ≤ l.length) (h1 : ∀ j, j < z → ∀ x, l[j]? = some x → p x = false) (h2 : ∀ x, l[z]? = some x → p x = true) : z = l.findIdx p := by
  rcases Nat.lt_or_ge z l.length with h | h
  · refine ((List.findIdx_eq h).2 ⟨h2 _ (List.getElem?_eq_getElem h), fun j hj => h1 j hj _ (List.getElem?_eq_getElem _)⟩).symm
  · obtain rfl : z = l.length := by omega
    refine (List.findIdx_eq_length_of_false (fun x hx => ?_)).symm
    obtain ⟨j, hj, rfl⟩ := List.getElem_of_mem hx
    exact h1 j hj _ (List.getElem?_eq_getElem hj)
theorem atN_le (l : List Ent) (s : List UInt8) : atN l s ≤ l.length := List.findIdx_le_length
theorem behN_le (l : List Ent) (s : List UInt8) : behN l s ≤ l.length := List.findIdx_le_length
/-! ### the closures -/
set_option maxRecDepth 100000 in
set_option maxHeartbeats 4000000 in
theorem named1_any (z : Ent) (q : Nat) (s : List UInt8) (u : World) (h : u.cell? ⟨q, 0, none⟩ = some (.string (str s))) :
    Calls Tryz.prog 76 #[.agg #[.string (str z.1), .int .i64 z.2], .pointer (some ⟨q, 0, none⟩)] u fun e u' => e = .returned (.bool (isN s z)) ∧ Below u.heap.size u u' := by
  obtain ⟨n, x⟩ := z
  have hq := lt_of_cell h
  obtain ⟨R, HR⟩ : ∃ b, Hid ((n == s) = b) := ⟨_, Lib.hid rfl⟩
  rw [show isN s (n, x) = (n == s) from rfl, HR.out]
  have hr := HR.out
  have c := ((balloc (Below.refl u.heap.size u) (.cells #[.string (str n), .int .i64 x] 82)).cell (p := ⟨q, 0, none⟩) hq).trans h
  go_enter Tryz.func76, Tryz.ntmps76
  go_wp2
  go_ret
  exact ⟨rfl, balloc (Below.refl _ _) _⟩
set_option maxRecDepth 100000 in
set_option maxHeartbeats 4000000 in
theorem behind1_any (z : Ent) (q : Nat) (s : List UInt8) (u : World) (h : u.cell? ⟨q, 0, none⟩ = some (.string (str s))) :
    Calls Tryz.prog 111 #[.agg #[.string (str z.1), .int .i64 z.2], .pointer (some ⟨q, 0, none⟩)] u fun e u' => e = .returned (.bool (gtN s z)) ∧ Below u.heap.size u u' := by
  obtain ⟨n, x⟩ := z
  have hq := lt_of_cell h
  obtain ⟨R, HR⟩ : ∃ b, Hid ((Op.bytesLess n s || n == s) = b) := ⟨_, Lib.hid rfl⟩
  rw [show gtN s (n, x) = !(Op.bytesLess n s || n == s) from rfl, HR.out]
  have hr := HR.out
  have c := ((balloc (Below.refl u.heap.size u) (.cells #[.string (str n), .int .i64 x] 82)).cell (p := ⟨q, 0, none⟩) hq).trans h
  go_enter Tryz.func111, Tryz.ntmps111
  go_wp2
  go_ret
  exact ⟨rfl, balloc (Below.refl _ _) _⟩
theorem FindBy_any (k : FuncId) (p : Ent → Bool) (s : List UInt8) (hcall : ∀ args u, (callFunc k args).run Tryz.prog u = .ok (.enter k args) u)
    (hrun : ∀ (z : Ent) (q : Nat) (u : World), u.cell? ⟨q, 0, none⟩ = some (.string (str s)) → Calls Tryz.prog k #[.agg #[.string (str z.1), .int .i64 z.2], .pointer (some ⟨q, 0, none⟩)] u fun e u' => e = .returned (.bool (p z)) ∧ Below u.heap.size u u')
    (A : Option Addr) (n c : Nat) (l : List Ent) (q : Nat) (w : World) (hl : IsG w 2 encN A n l) (hq : w.cell? ⟨q, 0, none⟩ = some (.string (str s))) :
    Calls Tryz.prog 46 #[.slice A n c, .func (.func k) #[] #[.pointer (some ⟨q, 0, none⟩)]] w fun e w' => e = .returned (.int .i64 (l.findIdx p : Int)) ∧ Below w.heap.size w w' := by
  have HC : ClosE w w l k (.pointer (some ⟨q, 0, none⟩)) (fun _ u => Below w.heap.size w u) (fun j => p (l.getD j ([], 0))) := by
    refine ⟨hcall, Below.refl _ _, fun _ _ h => h, fun _ _ _ h b => bnext h b, fun j u z h hz => ?_⟩
    refine (hrun z q u ((h.cell (p := ⟨q, 0, none⟩) (lt_of_cell hq)).trans hq)).mono ?_
    rintro e u' ⟨rfl, b⟩
    exact ⟨by rw [getD_of hz], bnext h b⟩
  refine (FindE_any w w A n c l hl k _ _ _ HC).mono ?_
  rintro e w1 ⟨z, rfl, hz, hno, hyes, _, hb⟩
  refine ⟨?_, hb⟩
  rw [← idx_of (p := p) (l := l) (z := z) (by rw [hl.length]; exact hz) (fun j hj x hx => by have := hno j hj; rwa [getD_of hx] at this) (fun x hx => by
    have h1 := (List.getElem?_eq_some_iff.1 hx).1
    have := hyes (by rw [← hl.length]; exact h1)
    rwa [getD_of hx] at this)]
/-! ### Find, Put, Drop -/
theorem named_any (s : List UInt8) (w : World) :
    Calls Tryz.prog 47 #[.string (str s)] w fun e w' => ∃ q, e = .returned (.func (.func 76) #[] #[.pointer (some ⟨q, 0, none⟩)]) ∧ w'.cell? ⟨q, 0, none⟩ = some (.string (str s)) ∧ Below w.heap.size w w' := by
  go_enter Tryz.func47, Tryz.ntmps47
  go_wp2
  go_ret
  exact ⟨_, rfl, by go_simp, balloc (Below.refl _ _) _⟩
theorem behind_any (s : List UInt8) (w : World) :
    Calls Tryz.prog 96 #[.string (str s)] w fun e w' => ∃ q, e = .returned (.func (.func 111) #[] #[.pointer (some ⟨q, 0, none⟩)]) ∧ w'.cell? ⟨q, 0, none⟩ = some (.string (str s)) ∧ Below w.heap.size w w' := by
  go_enter Tryz.func96, Tryz.ntmps96
  go_wp2
  go_ret
  exact ⟨_, rfl, by go_simp, balloc (Below.refl _ _) _⟩
set_option maxRecDepth 100000 in
set_option maxHeartbeats 4000000 in
theorem Find_any (A : Option Addr) (n c : Nat) (l : List Ent) (s : List UInt8) (w : World) (h : IsG w 2 encN A n l) (_hn : n ≤ 5000) :
    Calls Tryz.prog 25 #[.slice A n c, .string (str s)] w fun e w' => e = .returned (.tuple #[.int .i64 (findN l s).1, .bool (findN l s).2]) ∧ Below w.heap.size w w' := by
  have H := Lib.hid h
  have hlen := h.length
  clear h
  obtain ⟨z, Hz⟩ : ∃ z, Hid (atN l s = z) := ⟨_, Lib.hid rfl⟩
  have hz : z ≤ n := by rw [← Hz.out, ← hlen]; exact atN_le l s
  go_enter Tryz.func25, Tryz.ntmps25
  go_wp2_with fail
  refine (named_any s w).mono ?_
  rintro e w1 ⟨q, rfl, hq, b1⟩
  have T1 : Hid (w1.cell? ⟨q, 0, none⟩ = some (.string (str s)) ∧ IsG w1 2 encN A n l ∧ Below w.heap.size w w1) := Lib.hid ⟨hq, H.out.below b1, b1⟩
  clear hq b1
  go_wp2_with fail
  refine (FindBy_any _ (isN s) s (fun _ _ => rfl) (fun z q u hu => named1_any z q s u hu) A n c l q w1 T1.out.2.1 T1.out.1).mono ?_
  rw [show l.findIdx (isN s) = atN l s from rfl, Hz.out]
  rintro e w2 ⟨rfl, b2⟩
  have B2 := Lib.hid (bnext T1.out.2.2 b2)
  clear b2
  by_cases he : z = n
  · have hzn : (z : Int) = (n : Int) := by omega
    have HF : Hid (findN l s = (0, false)) := Lib.hid (by rw [findN, Hz.out, if_neg (by omega)])
    go_wp2_with fail
    go_ret2
    rw [HF.out]
    exact ⟨rfl, B2.out⟩
  · have hzn : ¬ (z : Int) = (n : Int) := by omega
    have hzl : (z : Int) < (n : Int) := by omega
    have hz0 : (0 : Int) ≤ (z : Int) := by omega
    obtain ⟨⟨t, x⟩, Hx⟩ : ∃ a, Hid (l[z]? = some a) := ⟨l[z]'(by omega), Lib.hid (List.getElem?_eq_getElem _)⟩
    obtain ⟨g, off, rfl, hg, c0, c1⟩ := (H.out.below B2.out).ent Hx.out
    have HF : Hid (findN l s = (x, true)) := Lib.hid (by rw [findN, Hz.out, if_pos (by omega), findX, Hz.out, getD_of Hx.out])
    go_wp2_with fail
    go_ret2
    rw [HF.out]
    exact ⟨rfl, B2.out⟩
theorem rg_nil {w : World} {A : Option Addr} {n c : Nat} {l : List Ent} (h : RG w 2 encN (.slice A n c) l) : (A = none ∧ n = 0 ∧ c = 0 ∧ l = []) ∨ ∃ g off, A = some ⟨g, off, none⟩ := by
  have hl := (h.is encN_ok).1.length
  rcases h.row.is with ⟨e, _⟩ | ⟨g, off, cap, e, _⟩
  · injection e with e1 e2 e3
    exact .inl ⟨e1, e2, e3, List.eq_nil_of_length_eq_zero (by omega)⟩
  · injection e with e1 e2 e3
    exact .inr ⟨g, off, e1⟩
set_option maxRecDepth 100000 in
set_option maxHeartbeats 4000000 in
theorem Drop_any (A : Option Addr) (n c : Nat) (l : List Ent) (s : List UInt8) (w : World) (h : RG w 2 encN (.slice A n c) l) (hn : n ≤ 5000) :
    Calls Tryz.prog 81 #[.slice A n c, .string (str s)] w fun e w' => ∃ v, e = .returned (.tuple #[v, .bool (hasN15 l s)]) ∧ RG w' 2 encN v (dropN l s) ∧ (∀ g, blk v = some g → w.heap.size ≤ g) ∧ Below w.heap.size w w' := by
  obtain ⟨hi, hnc, _⟩ := h.is encN_ok
  have H := Lib.hid hi
  have hlen := hi.length
  have HN := Lib.hid (rg_nil h)
  clear hi h
  obtain ⟨z, Hz⟩ : ∃ z, Hid (atN l s = z) := ⟨_, Lib.hid rfl⟩
  have hz : z ≤ n := by rw [← Hz.out, ← hlen]; exact atN_le l s
  go_enter Tryz.func81, Tryz.ntmps81
  go_wp2_with fail
  refine (named_any s w).mono ?_
  rintro e w1 ⟨q, rfl, hq, b1⟩
  have T1 : Hid (w1.cell? ⟨q, 0, none⟩ = some (.string (str s)) ∧ IsG w1 2 encN A n l ∧ Below w.heap.size w w1) := Lib.hid ⟨hq, H.out.below b1, b1⟩
  clear hq b1
  go_wp2_with fail
  refine (FindBy_any _ (isN s) s (fun _ _ => rfl) (fun z q u hu => named1_any z q s u hu) A n c l q w1 T1.out.2.1 T1.out.1).mono ?_
  rw [show l.findIdx (isN s) = atN l s from rfl, Hz.out]
  rintro e w2 ⟨rfl, b2⟩
  have T2 : Hid (IsG w2 2 encN A n l ∧ Below w.heap.size w w2) := Lib.hid ⟨T1.out.2.1.below b2, bnext T1.out.2.2 b2⟩
  clear b2
  by_cases he : z = n
  · have hzn : (z : Int) = (n : Int) := by omega
    have HF : Hid (hasN15 l s = false ∧ dropN l s = l) := Lib.hid ⟨by rw [hasN15, Hz.out]; exact decide_eq_false (by omega), by rw [dropN, Hz.out, if_neg (by omega)]⟩
    go_wp2_with fail
    refine (CloneE_any w2 A n c l T2.out.1 (by omega) (fun e => by
      rcases HN.out with ⟨_, h1, h2, _⟩ | ⟨_, _, h1⟩
      · exact ⟨h1, h2⟩
      · rw [e] at h1; cases h1)).mono ?_
    rintro e w3 ⟨v, rfl, g3, n3, b3⟩
    have T3 : Hid (RG w3 2 encN v l ∧ (∀ g, blk v = some g → w.heap.size ≤ g) ∧ Below w.heap.size w w3) := Lib.hid ⟨g3, fun g e => Nat.le_trans T2.out.2.size (n3 g e), bnext T2.out.2 b3⟩
    clear g3 n3 b3
    go_wp2_with fail
    go_ret2
    rw [HF.out.1, HF.out.2]
    exact ⟨v, rfl, T3.out⟩
  · have hzn : ¬ (z : Int) = (n : Int) := by omega
    obtain ⟨g, off, hA⟩ : ∃ g off, A = some ⟨g, off, none⟩ := by
      rcases HN.out with ⟨_, h1, _, _⟩ | h1
      · omega
      · exact h1
    subst hA
    have HF : Hid (hasN15 l s = true ∧ dropN l s = l.take z ++ [] ++ l.drop (z + 1)) := Lib.hid ⟨by rw [hasN15, Hz.out]; exact decide_eq_true (by omega), by rw [dropN, Hz.out, if_pos (by omega)]⟩
    have hnil : IsG w2 2 encN none 0 ([] : List Ent) := ⟨rfl, Nat.zero_le _, fun h => absurd h (Nat.lt_irrefl _)⟩
    have Hnil := Lib.hid hnil
    clear hnil
    go_wp2_with fail
    refine (with_some g off n c l z (z + 1) none 0 0 [] w2 T2.out.1 Hnil.out (by omega) (by omega) hnc (by omega) (by decide)).mono ?_
    rintro e w3 ⟨v, rfl, g3, n3, b3⟩
    have T3 : Hid (RG w3 2 encN v (l.take z ++ [] ++ l.drop (z + 1)) ∧ (∀ g, blk v = some g → w.heap.size ≤ g) ∧ Below w.heap.size w w3) := Lib.hid ⟨g3, fun g e => Nat.le_trans T2.out.2.size (n3 g e), bnext T2.out.2 b3⟩
    clear g3 n3 b3
    go_wp2_with fail
    go_ret2
    rw [HF.out.1, HF.out.2]
    exact ⟨v, rfl, T3.out⟩
set_option maxRecDepth 100000 in
set_option maxHeartbeats 8000000 in
theorem Put_any (A : Option Addr) (n c : Nat) (l : List Ent) (e0 : Ent) (w : World) (h : RG w 2 encN (.slice A n c) l) (hn : n ≤ 5000) :
    Calls Tryz.prog 80 #[.slice A n c, .agg #[.string (str e0.1), .int .i64 e0.2]] w fun e w' => ∃ v, e = .returned v ∧ RG w' 2 encN v (putN l e0) ∧ (∀ g, blk v = some g → w.heap.size ≤ g) ∧ Below w.heap.size w w' := by
  obtain ⟨hi, hnc, _⟩ := h.is encN_ok
  have H := Lib.hid hi
  have hlen := hi.length
  have HN := Lib.hid (rg_nil h)
  obtain ⟨s, x⟩ := e0
  clear hi h
  obtain ⟨W, HW⟩ : ∃ W, Hid (w.alloc (.cells #[.string (str s), .int .i64 x] 82) = W) := ⟨_, Lib.hid rfl⟩
  obtain ⟨p, Hp⟩ : ∃ p, Hid (w.heap.size = p) := ⟨_, Lib.hid rfl⟩
  have HL : Hid (W.cell? ⟨p, 0, none⟩ = some (.string (str s)) ∧ W.cell? ⟨p, 1, none⟩ = some (.int .i64 x) ∧ Below w.heap.size w W) := Lib.hid (by
    have b : Below w.heap.size w W := by rw [← HW.out]; exact balloc (Below.refl _ _) _
    refine ⟨?_, ?_, b⟩ <;> (rw [← HW.out, ← Hp.out]; go_simp))
  have k0 := HL.out.1
  rw [← HW.out] at k0
  obtain ⟨z, Hz⟩ : ∃ z, Hid (atN l s = z) := ⟨_, Lib.hid rfl⟩
  have hz : z ≤ n := by rw [← Hz.out, ← hlen]; exact atN_le l s
  go_enter Tryz.func80, Tryz.ntmps80
  go_wp2_with fail
  rw [HW.out, Hp.out]
  refine (named_any s W).mono ?_
  rintro e w1 ⟨q, rfl, hq, b1⟩
  have T1 : Hid (w1.cell? ⟨q, 0, none⟩ = some (.string (str s)) ∧ IsG w1 2 encN A n l ∧ Below w.heap.size w w1 ∧ Below W.heap.size W w1) := Lib.hid ⟨hq, H.out.below (bnext HL.out.2.2 b1), bnext HL.out.2.2 b1, b1⟩
  clear hq b1 k0
  go_wp2_with fail
  refine (FindBy_any _ (isN s) s (fun _ _ => rfl) (fun z q u hu => named1_any z q s u hu) A n c l q w1 T1.out.2.1 T1.out.1).mono ?_
  rw [show l.findIdx (isN s) = atN l s from rfl, Hz.out]
  rintro e w2 ⟨rfl, b2⟩
  have T2 : Hid (IsG w2 2 encN A n l ∧ Below w.heap.size w w2 ∧ Below W.heap.size W w2) := Lib.hid ⟨T1.out.2.1.below b2, bnext T1.out.2.2.1 b2, bnext T1.out.2.2.2 b2⟩
  clear b2
  have k0 := (T2.out.2.2.cell (p := ⟨p, 0, none⟩) (lt_of_cell HL.out.1)).trans HL.out.1
  have k1 := (T2.out.2.2.cell (p := ⟨p, 1, none⟩) (lt_of_cell HL.out.2.1)).trans HL.out.2.1
  by_cases he : z < n
  · have hzn : (z : Int) < (n : Int) := by omega
    obtain ⟨g, off, hA⟩ : ∃ g off, A = some ⟨g, off, none⟩ := by
      rcases HN.out with ⟨_, h1, _, _⟩ | h1
      · omega
      · exact h1
    subst hA
    have HF : Hid (putN l (s, x) = l.take z ++ [(s, x)] ++ l.drop (z + 1)) := Lib.hid (by rw [putN, show (s, x).1 = s from rfl, Hz.out, if_pos (by omega)])
    obtain ⟨U, HU⟩ : ∃ U, Hid (w2.alloc (.cells #[.string (str s), .int .i64 x] 82) = U) := ⟨_, Lib.hid rfl⟩
    obtain ⟨sz, Hsz⟩ : ∃ p, Hid (w2.heap.size = p) := ⟨_, Lib.hid rfl⟩
    have TU : Hid (Below w2.heap.size w2 U ∧ IsG U 2 encN (some ⟨sz, 0, none⟩) 1 [(s, x)]) := Lib.hid (by rw [← HU.out, ← Hsz.out]; exact ⟨balloc (Below.refl _ _) _, n_one w2 (s, x) _⟩)
    go_wp2_with fail
    rw [HU.out, Hsz.out]
    refine (with_some g off n c l z (z + 1) (some ⟨sz, 0, none⟩) 1 1 [(s, x)] U (T2.out.1.below TU.out.1) TU.out.2 (by omega) (by omega) hnc (by omega) (by decide)).mono ?_
    rintro e w3 ⟨v, rfl, g3, n3, b3⟩
    have T3 : Hid (RG w3 2 encN v (l.take z ++ [(s, x)] ++ l.drop (z + 1)) ∧ (∀ g, blk v = some g → w.heap.size ≤ g) ∧ Below w.heap.size w w3) := Lib.hid ⟨g3, fun g e => Nat.le_trans (bnext T2.out.2.1 TU.out.1).size (n3 g e), bnext (bnext T2.out.2.1 TU.out.1) b3⟩
    clear g3 n3 b3
    go_wp2_with fail
    go_ret
    rw [HF.out]
    exact ⟨v, rfl, T3.out⟩
  · have hzn : ¬ (z : Int) < (n : Int) := by omega
    obtain ⟨j, Hj⟩ : ∃ z, Hid (behN l s = z) := ⟨_, Lib.hid rfl⟩
    have hj : j ≤ n := by rw [← Hj.out, ← hlen]; exact behN_le l s
    have HF : Hid (putN l (s, x) = l.take j ++ [(s, x)] ++ l.drop j) := Lib.hid (by rw [putN, show (s, x).1 = s from rfl, Hz.out, if_neg (by omega), Hj.out])
    clear k1
    go_wp2_with fail
    refine (behind_any s w2).mono ?_
    rintro e w3 ⟨q3, rfl, hq, b3⟩
    have T3 : Hid (w3.cell? ⟨q3, 0, none⟩ = some (.string (str s)) ∧ IsG w3 2 encN A n l ∧ Below w.heap.size w w3 ∧ Below W.heap.size W w3) := Lib.hid ⟨hq, T2.out.1.below b3, bnext T2.out.2.1 b3, bnext T2.out.2.2 b3⟩
    clear hq b3 k0
    go_wp2_with fail
    refine (FindBy_any _ (gtN s) s (fun _ _ => rfl) (fun z q u hu => behind1_any z q s u hu) A n c l q3 w3 T3.out.2.1 T3.out.1).mono ?_
    rw [show l.findIdx (gtN s) = behN l s from rfl, Hj.out]
    rintro e w4 ⟨rfl, b4⟩
    have T4 : Hid (IsG w4 2 encN A n l ∧ Below w.heap.size w w4 ∧ Below W.heap.size W w4) := Lib.hid ⟨T3.out.2.1.below b4, bnext T3.out.2.2.1 b4, bnext T3.out.2.2.2 b4⟩
    clear b4
    have k0 := (T4.out.2.2.cell (p := ⟨p, 0, none⟩) (lt_of_cell HL.out.1)).trans HL.out.1
    have k1 := (T4.out.2.2.cell (p := ⟨p, 1, none⟩) (lt_of_cell HL.out.2.1)).trans HL.out.2.1
    obtain ⟨U, HU⟩ : ∃ U, Hid (w4.alloc (.cells #[.string (str s), .int .i64 x] 82) = U) := ⟨_, Lib.hid rfl⟩
    obtain ⟨sz, Hsz⟩ : ∃ p, Hid (w4.heap.size = p) := ⟨_, Lib.hid rfl⟩
    have TU : Hid (Below w4.heap.size w4 U ∧ IsG U 2 encN (some ⟨sz, 0, none⟩) 1 [(s, x)]) := Lib.hid (by rw [← HU.out, ← Hsz.out]; exact ⟨balloc (Below.refl _ _) _, n_one w4 (s, x) _⟩)
    rcases HN.out with ⟨hA, hn0, hc0, hl0⟩ | ⟨g, off, hA⟩
    · subst hA hn0 hc0 hl0
      obtain rfl : j = 0 := by omega
      have HF2 : Hid (putN [] (s, x) = [(s, x)]) := Lib.hid (by rw [HF.out]; rfl)
      go_wp2_with fail
      rw [HU.out, Hsz.out]
      refine (with_none (some ⟨sz, 0, none⟩) 1 1 [(s, x)] U TU.out.2 (by decide)).mono ?_
      rintro e w5 ⟨v, rfl, g5, n5, b5⟩
      have T5 : Hid (RG w5 2 encN v [(s, x)] ∧ (∀ g, blk v = some g → w.heap.size ≤ g) ∧ Below w.heap.size w w5) := Lib.hid ⟨g5, fun g e => Nat.le_trans (bnext T4.out.2.1 TU.out.1).size (n5 g e), bnext (bnext T4.out.2.1 TU.out.1) b5⟩
      clear g5 n5 b5
      go_wp2_with fail
      go_ret
      rw [HF2.out]
      exact ⟨v, rfl, T5.out⟩
    · subst hA
      go_wp2_with fail
      rw [HU.out, Hsz.out]
      refine (with_some g off n c l j j (some ⟨sz, 0, none⟩) 1 1 [(s, x)] U (T4.out.1.below TU.out.1) TU.out.2 (Nat.le_refl _) (by omega) hnc (by omega) (by decide)).mono ?_
      rintro e w5 ⟨v, rfl, g5, n5, b5⟩
      have T5 : Hid (RG w5 2 encN v (l.take j ++ [(s, x)] ++ l.drop j) ∧ (∀ g, blk v = some g → w.heap.size ≤ g) ∧ Below w.heap.size w w5) := Lib.hid ⟨g5, fun g e => Nat.le_trans (bnext T4.out.2.1 TU.out.1).size (n5 g e), bnext (bnext T4.out.2.1 TU.out.1) b5⟩
      clear g5 n5 b5
      go_wp2_with fail
      go_ret
      rw [HF.out]
      exact ⟨v, rfl, T5.out⟩
end Go.Proofs.YtiomhdanmcnaeaaGreatDoor
