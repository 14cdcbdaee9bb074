/- What the calls of a network give that speak of one link. -/
import Derived.Test.YtakhhpakajafkaaPick
namespace Go.Proofs.Ytakhhpakajafkaa
open Go.RowKit

theorem linkAt {i j : Nat} (hi : i < 8) (hj : j < 8) (hne : i ≠ j) : LinkAt (8 * i + j) := ⟨by omega, fun k _ e => by omega⟩
/-- From a link: its ends and its place. -/
theorem link_nat {i j : Int} (h : linkB i j = true) : ∃ a b : Nat, i = a ∧ j = b ∧ a < 8 ∧ b < 8 ∧ a ≠ b := by
  simp [linkB, nodeB] at h
  obtain ⟨a, rfl⟩ := Int.eq_ofNat_of_zero_le h.1.1.1
  obtain ⟨b, rfl⟩ := Int.eq_ofNat_of_zero_le h.1.2.1
  exact ⟨a, b, rfl, rfl, by omega, by omega, by omega⟩
/-- What waits on a link; nothing, if it is none. -/
def onL (s : NS) (i j : Int) : List (List UInt8) := if linkB i j = true then s (8 * i.toNat + j.toNat) else []
theorem onL_nat (s : NS) {i j : Nat} (hi : i < 8) (hj : j < 8) (hne : i ≠ j) : onL s i j = s (8 * i + j) := by
  have : linkB i j = true := by simp [linkB, nodeB]; omega
  rw [onL, if_pos this, Int.toNat_natCast, Int.toNat_natCast]
theorem onL_no (s : NS) {i j : Int} (h : linkB i j = false) : onL s i j = [] := by rw [onL, if_neg (by rw [h]; decide)]
/-- A network whose link holds something else. -/
def toL (s : NS) (i j : Int) (l : List (List UInt8)) : NS := if linkB i j = true then s.put (8 * i.toNat + j.toNat) l else s
theorem toL_nat (s : NS) {i j : Nat} (hi : i < 8) (hj : j < 8) (hne : i ≠ j) (l : List (List UInt8)) : toL s i j l = s.put (8 * i + j) l := by
  have : linkB i j = true := by simp [linkB, nodeB]; omega
  rw [toL, if_pos this, Int.toNat_natCast, Int.toNat_natCast]
theorem toL_no (s : NS) {i j : Int} (h : linkB i j = false) (l : List (List UInt8)) : toL s i j l = s := by rw [toL, if_neg (by rw [h]; decide)]
section
variable {w : World} {b : Nat} {ρ : Nat → Role} {s : NS} {bv : Nat → Value}
theorem Waits_any (h : Nt w b ρ s bv) (i j : Int) :
    Calls Try.prog 27 #[.pointer (some ⟨b, 0, none⟩), .int .i64 i, .int .i64 j] w fun e w' => e = .returned (.int .i64 ((onL s i j).length : Int)) ∧ w = w' := by
  cases hl : linkB i j with
  | true =>
    obtain ⟨x, y, rfl, rfl, hx, hy, hne⟩ := link_nat hl
    rw [onL_nat s hx hy hne]
    have Hne := Lib.hid hne
    clear hl hne
    go_enter Try.func27, Try.ntmps27
    go_wp2_with fail
    refine (bag_yes hx hy Hne.out _ _).mono ?_
    rintro e w1 ⟨rfl, rfl⟩
    go_wp2_with fail
    refine (waits_any h (by omega)).mono ?_
    rintro e w1 ⟨rfl, rfl⟩
    go_wp2
    go_ret
    exact ⟨rfl, rfl⟩
  | false =>
    rw [onL_no s hl]
    have Hl := Lib.hid hl
    clear hl
    go_enter Try.func27, Try.ntmps27
    go_wp2_with fail
    refine (bag_no Hl.out _ _).mono ?_
    rintro e w1 ⟨rfl, rfl⟩
    go_wp2_with fail
    refine (waits_nil _).mono ?_
    rintro e w1 ⟨rfl, rfl⟩
    go_wp2
    go_ret
    exact ⟨rfl, rfl⟩
/-- What sending tells, and leaves. -/
def sendB (s : NS) (i j : Int) (l : List UInt8) : Bool := decide (l.length ≤ 2000) && linkB i j && decide ((onL s i j).length < 200)
def sendS (s : NS) (i j : Int) (l : List UInt8) : NS := if sendB s i j l = true then toL s i j (onL s i j ++ [l]) else s
theorem Send_any (h : Nt w b ρ s bv) (i j : Int) (l : List UInt8) (hsz : l.length ≤ 9223372036854775807) :
    Calls Try.prog 22 #[.pointer (some ⟨b, 0, none⟩), .int .i64 i, .int .i64 j, .string (str l)] w (Did w b ρ (sendS s i j l) (.bool (sendB s i j l))) := by
  have hsame : Did w b ρ s (.bool false) (.returned (.bool false)) w := ⟨rfl, ρ, ⟨bv, h⟩, Step.refl _ _⟩
  have Hsame := Lib.hid hsame
  clear hsame
  by_cases hlen : l.length ≤ 2000
  · have hlen' : decide ((l.length : Int) ≤ 2000) = true := by simp; omega
    cases hl : linkB i j with
    | true =>
      obtain ⟨x, y, rfl, rfl, hx, hy, hne⟩ := link_nat hl
      by_cases hf : (s (8 * x + y)).length < 200
      · have e1 : sendB s x y l = true := by simp [sendB, hl, onL_nat s hx hy hne, hlen, hf]
        have e2 : sendS s x y l = s.put (8 * x + y) (s (8 * x + y) ++ [l]) := by rw [sendS, if_pos e1, onL_nat s hx hy hne, toL_nat s hx hy hne]
        rw [e1, e2]
        have Hne := Lib.hid hne
        have Hf := Lib.hid hf
        clear hl hne e1 e2 hf
        go_enter Try.func22, Try.ntmps22
        go_wp2_with fail
        refine (bag_yes hx hy Hne.out _ _).mono ?_
        rintro e w1 ⟨rfl, rfl⟩
        go_wp2_with fail
        refine (add_yes h (linkAt hx hy Hne.out) Hf.out _).mono ?_
        rintro e w1 ⟨rfl, hD⟩
        go_wp2
        go_ret
        exact ⟨rfl, hD⟩
      · have e1 : sendB s x y l = false := by simp [sendB, hl, onL_nat s hx hy hne, hf]
        have e2 : sendS s x y l = s := by rw [sendS, if_neg (by rw [e1]; decide)]
        rw [e1, e2]
        have Hne := Lib.hid hne
        have Hf : Hid (200 ≤ (s (8 * x + y)).length) := Lib.hid (by omega)
        clear hl hne e1 e2 hf
        go_enter Try.func22, Try.ntmps22
        go_wp2_with fail
        refine (bag_yes hx hy Hne.out _ _).mono ?_
        rintro e w1 ⟨rfl, rfl⟩
        go_wp2_with fail
        refine (add_full h (by omega) Hf.out _).mono ?_
        rintro e w1 ⟨rfl, rfl⟩
        go_wp2
        go_ret
        exact Hsame.out
    | false =>
      have e1 : sendB s i j l = false := by simp [sendB, hl]
      have e2 : sendS s i j l = s := by rw [sendS, if_neg (by rw [e1]; decide)]
      rw [e1, e2]
      have Hl := Lib.hid hl
      clear hl e1 e2
      go_enter Try.func22, Try.ntmps22
      go_wp2_with fail
      refine (bag_no Hl.out _ _).mono ?_
      rintro e w1 ⟨rfl, rfl⟩
      go_wp2_with fail
      refine (add_nil _ _).mono ?_
      rintro e w1 ⟨rfl, rfl⟩
      go_wp2
      go_ret
      exact Hsame.out
  · have hlen' : decide ((l.length : Int) ≤ 2000) = false := by simp; omega
    have e1 : sendB s i j l = false := by simp [sendB, hlen]
    have e2 : sendS s i j l = s := by rw [sendS, if_neg (by rw [e1]; decide)]
    rw [e1, e2]
    clear e1 e2
    go_enter Try.func22, Try.ntmps22
    go_wp2
    go_ret
    exact Hsame.out
/-- What taking tells, and leaves. -/
def tkB (s : NS) (i j : Int) : Bool := decide (0 < (onL s i j).length)
def tkT (s : NS) (i j x : Int) : List UInt8 := nth (onL s i j) (wh x (onL s i j).length)
def tkS (s : NS) (i j x : Int) : NS := toL s i j ((onL s i j).eraseIdx (wh x (onL s i j).length))
theorem tkT_nil {s : NS} {i j : Int} (h : onL s i j = []) (x : Int) : tkT s i j x = [] := by rw [tkT, h]; simp [nth]
theorem toL_same (s : NS) (i j : Int) (l : List (List UInt8)) (h : l = onL s i j) : toL s i j l = s := by
  cases hl : linkB i j with
  | false => exact toL_no s hl l
  | true =>
    obtain ⟨x, y, rfl, rfl, hx, hy, hne⟩ := link_nat hl
    rw [toL_nat s hx hy hne, h, onL_nat s hx hy hne]
    funext k
    by_cases e : k = 8 * x + y
    · rw [e, NS.put_same]
    · rw [NS.put_other _ _ e]
theorem tkS_nil {s : NS} {i j : Int} (h : onL s i j = []) (x : Int) : tkS s i j x = s := toL_same _ _ _ _ (by rw [h]; rfl)
theorem Take_any (h : Nt w b ρ s bv) (i j : Int) {x : Int} (hx : (Lit.int .i64 x).wf = true) :
    Calls Try.prog 12 #[.pointer (some ⟨b, 0, none⟩), .int .i64 i, .int .i64 j, .int .i64 x] w (Did w b ρ (tkS s i j x) (.tuple #[.string (str (tkT s i j x)), .bool (tkB s i j)])) := by
  have Hsame : Hid (IsN w b ρ s) := Lib.hid ⟨bv, h⟩
  cases hl : linkB i j with
  | true =>
    obtain ⟨p, q, rfl, rfl, hp, hq, hne⟩ := link_nat hl
    have e0 := onL_nat s hp hq hne
    have hk : 8 * p + q < 64 := by omega
    by_cases h0 : (s (8 * p + q)).length = 0
    · have e1 : onL s p q = [] := by rw [e0]; exact List.eq_nil_of_length_eq_zero h0
      rw [tkS_nil e1, tkT_nil e1, tkB, e1]
      have Hne := Lib.hid hne
      have H0 := Lib.hid h0
      clear hl hne e0 e1 h0
      go_enter Try.func12, Try.ntmps12
      go_wp2_with fail
      refine (bag_yes hp hq Hne.out _ _).mono ?_
      rintro e w1 ⟨rfl, rfl⟩
      go_wp2_with fail
      refine (waits_any h hk).mono ?_
      rw [H0.out]
      rintro e w1 ⟨rfl, rfl⟩
      go_wp2_with fail
      refine (pickS_none _ _ _).mono ?_
      rintro e w1 ⟨rfl, rfl⟩
      go_wp2
      go_ret2
      exact ⟨rfl, ρ, Hsame.out, Step.refl _ _⟩
    · have e2 : tkS s p q x = s.put (8 * p + q) ((s (8 * p + q)).eraseIdx (wh x (s (8 * p + q)).length)) := by rw [tkS, e0, toL_nat s hp hq hne]
      have e3 : tkT s p q x = nth (s (8 * p + q)) (wh x (s (8 * p + q)).length) := by rw [tkT, e0]
      have e4 : tkB s p q = true := by rw [tkB, e0]; simp; omega
      rw [e2, e3, e4]
      have Hne := Lib.hid hne
      have H0 : Hid (0 < (s (8 * p + q)).length) := Lib.hid (by omega)
      obtain ⟨T, HT⟩ : ∃ T, Hid (nth (s (8 * p + q)) (wh x (s (8 * p + q)).length) = T) := ⟨_, Lib.hid rfl⟩
      obtain ⟨S', HS'⟩ : ∃ S', Hid (s.put (8 * p + q) ((s (8 * p + q)).eraseIdx (wh x (s (8 * p + q)).length)) = S') := ⟨_, Lib.hid rfl⟩
      rw [HT.out, HS'.out]
      clear hl hne e0 e2 e3 e4 h0
      go_enter Try.func12, Try.ntmps12
      go_wp2_with fail
      refine (bag_yes hp hq Hne.out _ _).mono ?_
      rintro e w1 ⟨rfl, rfl⟩
      go_wp2_with fail
      refine (waits_any h hk).mono ?_
      rintro e w1 ⟨rfl, rfl⟩
      go_wp2_with fail
      refine (pickS_some h hk hx H0.out).mono ?_
      rw [HT.out, HS'.out]
      rintro e w1 ⟨rfl, hD⟩
      go_wp2
      go_ret2
      exact ⟨rfl, hD⟩
  | false =>
    have e1 := onL_no s hl
    rw [tkS_nil e1, tkT_nil e1, tkB, e1]
    have Hl := Lib.hid hl
    clear hl e1
    go_enter Try.func12, Try.ntmps12
    go_wp2_with fail
    refine (bag_no Hl.out _ _).mono ?_
    rintro e w1 ⟨rfl, rfl⟩
    go_wp2_with fail
    refine (waits_nil _).mono ?_
    rintro e w1 ⟨rfl, rfl⟩
    go_wp2_with fail
    refine (pickS_none _ _ _).mono ?_
    rintro e w1 ⟨rfl, rfl⟩
    go_wp2
    go_ret2
    exact ⟨rfl, ρ, Hsame.out, Step.refl _ _⟩
theorem Drop_any (h : Nt w b ρ s bv) (i j : Int) {x : Int} (hx : (Lit.int .i64 x).wf = true) :
    Calls Try.prog 16 #[.pointer (some ⟨b, 0, none⟩), .int .i64 i, .int .i64 j, .int .i64 x] w (Did w b ρ (tkS s i j x) (.bool (tkB s i j))) := by
  go_enter Try.func16, Try.ntmps16
  go_wp2_with fail
  refine (Take_any h i j hx).mono ?_
  rintro e w1 ⟨rfl, hD⟩
  go_wp2
  go_ret
  exact ⟨rfl, hD⟩
/-- What doubling a link's message leaves, and tells. -/
def dbB (s : NS) (i j : Int) : Bool := decide (0 < (onL s i j).length) && decide ((onL s i j).length < 200)
def dbS (s : NS) (i j x : Int) : NS := if dbB s i j = true then toL s i j (onL s i j ++ [nth (onL s i j) (wh x (onL s i j).length)]) else s
theorem Double_any (h : Nt w b ρ s bv) (i j : Int) {x : Int} (hx : (Lit.int .i64 x).wf = true) :
    Calls Try.prog 17 #[.pointer (some ⟨b, 0, none⟩), .int .i64 i, .int .i64 j, .int .i64 x] w (Did w b ρ (dbS s i j x) (.bool (dbB s i j))) := by
  have Hsame : Hid (IsN w b ρ s) := Lib.hid ⟨bv, h⟩
  cases hl : linkB i j with
  | true =>
    obtain ⟨p, q, rfl, rfl, hp, hq, hne⟩ := link_nat hl
    have e0 := onL_nat s hp hq hne
    have hk : 8 * p + q < 64 := by omega
    by_cases h0 : (s (8 * p + q)).length = 0
    · have e1 : onL s p q = [] := by rw [e0]; exact List.eq_nil_of_length_eq_zero h0
      have e2 : dbB s p q = false := by rw [dbB, e1]; rfl
      have e3 : dbS s p q x = s := by rw [dbS, e2]; rfl
      rw [e2, e3]
      have Hne := Lib.hid hne
      have H0 := Lib.hid h0
      clear hl hne e0 e1 h0 e2 e3
      go_enter Try.func17, Try.ntmps17
      go_wp2_with fail
      refine (bag_yes hp hq Hne.out _ _).mono ?_
      rintro e w1 ⟨rfl, rfl⟩
      go_wp2_with fail
      refine (waits_any h hk).mono ?_
      rw [H0.out]
      rintro e w1 ⟨rfl, rfl⟩
      go_wp2_with fail
      refine (pickB_none _ _ _).mono ?_
      rintro e w1 ⟨rfl, rfl⟩
      go_wp2
      go_ret
      exact ⟨rfl, ρ, Hsame.out, Step.refl _ _⟩
    · have e2 : dbS s p q x = dblS s (8 * p + q) (wh x (s (8 * p + q)).length) := by
        rw [dbS, dblS, dbB, e0, toL_nat s hp hq hne]
        by_cases hf : (s (8 * p + q)).length < 200
        · rw [if_pos hf, if_pos (by simp [hf]; omega)]
        · rw [if_neg hf, if_neg (by simp [hf])]
      have e4 : dbB s p q = decide ((s (8 * p + q)).length < 200) := by
        rw [dbB, e0, decide_eq_true (show 0 < (s (8 * p + q)).length by omega), Bool.true_and]
      rw [e2, e4]
      have Hne := Lib.hid hne
      have H0 : Hid (0 < (s (8 * p + q)).length) := Lib.hid (by omega)
      obtain ⟨B, HB⟩ : ∃ B, Hid (decide ((s (8 * p + q)).length < 200) = B) := ⟨_, Lib.hid rfl⟩
      rw [HB.out]
      clear hl hne e0 e2 e4 h0
      go_enter Try.func17, Try.ntmps17
      go_wp2_with fail
      refine (bag_yes hp hq Hne.out _ _).mono ?_
      rintro e w1 ⟨rfl, rfl⟩
      go_wp2_with fail
      refine (waits_any h hk).mono ?_
      rintro e w1 ⟨rfl, rfl⟩
      go_wp2_with fail
      refine (pickB_some h (linkAt hp hq Hne.out) hx H0.out).mono ?_
      rw [HB.out]
      rintro e w1 ⟨rfl, hD⟩
      go_wp2
      go_ret
      exact ⟨rfl, hD⟩
  | false =>
    have e1 := onL_no s hl
    have e2 : dbB s i j = false := by rw [dbB, e1]; rfl
    have e3 : dbS s i j x = s := by rw [dbS, e2]; rfl
    rw [e2, e3]
    have Hl := Lib.hid hl
    clear hl e1 e2 e3
    go_enter Try.func17, Try.ntmps17
    go_wp2_with fail
    refine (bag_no Hl.out _ _).mono ?_
    rintro e w1 ⟨rfl, rfl⟩
    go_wp2_with fail
    refine (waits_nil _).mono ?_
    rintro e w1 ⟨rfl, rfl⟩
    go_wp2_with fail
    refine (pickB_none _ _ _).mono ?_
    rintro e w1 ⟨rfl, rfl⟩
    go_wp2
    go_ret
    exact ⟨rfl, ρ, Hsame.out, Step.refl _ _⟩
end
/-! ### of no network -/
theorem Waits_nil (i j : Int) (w : World) :
    Calls Try.prog 27 #[.pointer none, .int .i64 i, .int .i64 j] w fun e w' => e = .returned (.int .i64 0) ∧ w = w' := by
  go_enter Try.func27, Try.ntmps27
  go_wp2_with fail
  refine (bag_nil _ _ _).mono ?_
  rintro e w1 ⟨rfl, rfl⟩
  go_wp2_with fail
  refine (waits_nil _).mono ?_
  rintro e w1 ⟨rfl, rfl⟩
  go_wp2
  go_ret
  exact ⟨rfl, rfl⟩
theorem Send_nil (i j : Int) (l : List UInt8) (hl : l.length ≤ 2000) (w : World) :
    Calls Try.prog 22 #[.pointer none, .int .i64 i, .int .i64 j, .string (str l)] w fun e w' => e = .returned (.bool false) ∧ w = w' := by
  have hlen' : decide ((l.length : Int) ≤ 2000) = true := by simp; omega
  go_enter Try.func22, Try.ntmps22
  go_wp2_with fail
  refine (bag_nil _ _ _).mono ?_
  rintro e w1 ⟨rfl, rfl⟩
  go_wp2_with fail
  refine (add_nil _ _).mono ?_
  rintro e w1 ⟨rfl, rfl⟩
  go_wp2
  go_ret
  exact ⟨rfl, rfl⟩
theorem Take_nil (i j x : Int) (w : World) :
    Calls Try.prog 12 #[.pointer none, .int .i64 i, .int .i64 j, .int .i64 x] w fun e w' => e = .returned (.tuple #[.string (str []), .bool false]) ∧ w = w' := by
  go_enter Try.func12, Try.ntmps12
  go_wp2_with fail
  refine (bag_nil _ _ _).mono ?_
  rintro e w1 ⟨rfl, rfl⟩
  go_wp2_with fail
  refine (waits_nil _).mono ?_
  rintro e w1 ⟨rfl, rfl⟩
  go_wp2_with fail
  refine (pickS_none _ _ _).mono ?_
  rintro e w1 ⟨rfl, rfl⟩
  go_wp2
  go_ret2
  exact ⟨rfl, rfl⟩
theorem Drop_nil (i j x : Int) (w : World) :
    Calls Try.prog 16 #[.pointer none, .int .i64 i, .int .i64 j, .int .i64 x] w fun e w' => e = .returned (.bool false) ∧ w = w' := by
  go_enter Try.func16, Try.ntmps16
  go_wp2_with fail
  refine (Take_nil _ _ _ _).mono ?_
  rintro e w1 ⟨rfl, rfl⟩
  go_wp2
  go_ret
  exact ⟨rfl, rfl⟩
theorem Double_nil (i j x : Int) (w : World) :
    Calls Try.prog 17 #[.pointer none, .int .i64 i, .int .i64 j, .int .i64 x] w fun e w' => e = .returned (.bool false) ∧ w = w' := by
  go_enter Try.func17, Try.ntmps17
  go_wp2_with fail
  refine (bag_nil _ _ _).mono ?_
  rintro e w1 ⟨rfl, rfl⟩
  go_wp2_with fail
  refine (waits_nil _).mono ?_
  rintro e w1 ⟨rfl, rfl⟩
  go_wp2_with fail
  refine (pickB_none _ _ _).mono ?_
  rintro e w1 ⟨rfl, rfl⟩
  go_wp2
  go_ret
  exact ⟨rfl, rfl⟩
end Go.Proofs.Ytakhhpakajafkaa
