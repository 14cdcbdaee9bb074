/- What the document's own reader gives, as far as views are read. -/
import Derived.Test.YtnbhjehaecifcaaChecked
import Derived.Test.YtnbhjehaecifcaaClose
import Derived.Deep.QuietTactic
import Derived.BigQuiet
namespace Go.Proofs.Ytnbhjehaecifcaa
open Go.RowKit

/-- The document's reader lies in block c: its text, its place, and whether it is bad. -/
structure XR (w : World) (c : Nat) (S : List UInt8) (at_ : Nat) (bad : Bool) : Prop where
  text : w.cell? ⟨c, 0, none⟩ = some (.string (str S))
  place : w.cell? ⟨c, 1, none⟩ = some (.int .i64 at_)
  bad : w.cell? ⟨c, 2, none⟩ = some (.bool bad)
  free1 : w.frozen? ⟨c, 1, none⟩ = false
  free2 : w.frozen? ⟨c, 2, none⟩ = false
theorem XR.lt {w : World} {b : Nat} {S : List UInt8} {n : Nat} {br : Bool} (h : XR w b S n br) : b < w.heap.size := lt_of_cell h.text
theorem XR.later {T : Nat → Prop} {w w' : World} {b : Nat} {S : List UInt8} {n : Nat} {br : Bool} (h : XR w b S n br) (m : Mod T w w') (hs : ¬ T b) : XR w' b S n br :=
  ⟨(m.cell (p := ⟨b, 0, none⟩) h.lt hs).trans h.text, (m.cell (p := ⟨b, 1, none⟩) h.lt hs).trans h.place, (m.cell (p := ⟨b, 2, none⟩) h.lt hs).trans h.bad, (m.frozen (p := ⟨b, 1, none⟩) h.lt hs).trans h.free1, (m.frozen (p := ⟨b, 2, none⟩) h.lt hs).trans h.free2⟩
theorem XR.drewN {w : World} {b : Nat} {S : List UInt8} {n : Nat} {br : Bool} (h : XR w b S n br) (k : Nat) : XR (w.drewN k) b S n br :=
  ⟨h.text, h.place, h.bad, h.free1, h.free2⟩
theorem XR.set1 {w : World} {b : Nat} {S : List UInt8} {n : Nat} {br : Bool} (h : XR w b S n br) (n' : Nat) : XR (w.setCell ⟨b, 1, none⟩ (.int .i64 n')) b S n' br :=
  ⟨set_other (by simp) h.text, set_same h.place, set_other (by simp) h.bad, set_frozen h.free1, set_frozen h.free2⟩
theorem XR.set2 {w : World} {b : Nat} {S : List UInt8} {n : Nat} {br : Bool} (h : XR w b S n br) (br' : Bool) : XR (w.setCell ⟨b, 2, none⟩ (.bool br')) b S n br' :=
  ⟨set_other (by simp) h.text, set_other (by simp) h.place, set_same h.bad, set_frozen h.free1, set_frozen h.free2⟩

/-- Only the tape has moved on. -/
def Dr (w w' : World) : Prop := ∃ q, w' = w.drewN q
theorem Dr.refl (w : World) : Dr w w := ⟨0, rfl⟩
theorem Dr.of (w : World) (n : Nat) : Dr w (w.drewN n) := ⟨n, rfl⟩
theorem Dr.next {a b : World} (h : Dr a b) (n : Nat) : Dr a (b.drewN n) := by
  obtain ⟨q, rfl⟩ := h
  exact ⟨q + n, by simp [World.drewN_drewN]⟩
theorem Dr.mod {a b : World} (h : Dr a b) (T : Nat → Prop) : Mod T a b := by
  obtain ⟨q, rfl⟩ := h
  exact (Mod.refl _ _).drewN _
theorem XR.dr {w w' : World} {b : Nat} {S : List UInt8} {n : Nat} {br : Bool} (h : XR w b S n br) (d : Dr w w') : XR w' b S n br := by
  obtain ⟨q, rfl⟩ := d
  exact h.drewN q
theorem XNum_bad (c : Nat) (S : List UInt8) (n : Nat) (size : Int) (w : World) (h : XR w c S n true) :
    Calls Try.prog 59 #[.pointer (some ⟨c, 0, none⟩), .int .i64 size] w fun e w' => e = .returned (.tuple #[.int .u64 0, .bool false]) ∧ Mod (· = c) w w' ∧ XR w' c S n true := by
  have H := Lib.hid h
  obtain ⟨c0, c1, c2, f1, f2⟩ := h
  go_enter Try.func59, Try.ntmps59
  go_wp2
  go_quiet (fail)
  go_wp2
  go_ret2
  exact ⟨rfl, ((Mod.refl _ _).drewN _).set1 _, (H.out.drewN _).set2 true⟩
theorem XNum_short (c : Nat) (S : List UInt8) (n : Nat) (size : Int) (hl : S.length ≤ 9223372036854775807) (hn : n ≤ S.length) (hs : (S.length : Int) - n < size) (w : World) (h : XR w c S n false) :
    Calls Try.prog 59 #[.pointer (some ⟨c, 0, none⟩), .int .i64 size] w fun e w' => e = .returned (.tuple #[.int .u64 0, .bool false]) ∧ Mod (· = c) w w' ∧ XR w' c S n true := by
  have H := Lib.hid h
  obtain ⟨c0, c1, c2, f1, f2⟩ := h
  go_enter Try.func59, Try.ntmps59
  go_wp2
  go_quiet (fail)
  go_wp2
  go_ret2
  exact ⟨rfl, ((Mod.refl _ _).drewN _).set1 _, (H.out.drewN _).set2 true⟩
theorem XNum_good (c : Nat) (S : List UInt8) (n : Nat) (size : Int) (hl : S.length ≤ 9223372036854775807) (hn : n ≤ S.length) (h0 : 0 ≤ size) (h8 : size ≤ 8) (hs : size ≤ (S.length : Int) - n) (w : World) (h : XR w c S n false) :
    Calls Try.prog 59 #[.pointer (some ⟨c, 0, none⟩), .int .i64 size] w fun e w' => e = .returned (.tuple #[.int .u64 (num ((S.drop n).take size.toNat)), .bool true]) ∧ Mod (· = c) w w' ∧ XR w' c S (n + size.toNat) false := by
  have H := Lib.hid h
  obtain ⟨z, rfl⟩ := Int.eq_ofNat_of_zero_le h0
  rw [Int.toNat_natCast]
  obtain ⟨c0, c1, c2, f1, f2⟩ := h
  go_enter Try.func59, Try.ntmps59
  go_wp2
  go_quiet (fail)
  go_wp2
  clear c0 c1 c2 f1 f2
  go_loopw [6, 7] (fun a i wr => ∃ k : Nat, k ≤ z ∧ i = .int .i64 k ∧ a = .int .u64 (num ((S.drop n).take k)) ∧ Dr w wr) (fun _ i _ => z - (intOf i).toNat)
  case atStart => exact ⟨0, Nat.zero_le _, rfl, rfl, .of _ _⟩
  case round =>
    obtain ⟨k, hk, rfl, rfl, hd⟩ := hrel
    have Hd := Lib.hid hd
    obtain ⟨c0, c1, c2, f1, f2⟩ := H.out.dr hd
    clear hd
    by_cases hlt : k < z
    · have hb := num_lt ((S.drop n).take k)
      have hb2 : 256 ^ ((S.drop n).take k).length ≤ 256 ^ 7 := Nat.pow_le_pow_right (by omega) (by simp; omega)
      have hb3 : num ((S.drop n).take k) < 72057594037927936 := by omega
      clear hb hb2
      have hg := UInt8.toNat_lt (S[n + k]'(by omega))
      have hi : (n : Int) + (k : Int) < (S.length : Int) := by omega
      have hi0 : 0 ≤ (n : Int) + (k : Int) := by omega
      have q1 : IntKind.i64.wrap ((n : Int) + (k : Int)) = (n : Int) + (k : Int) := IntWalk.i64_in _ (by omega)
      have q2 : ((n : Int) + (k : Int)).toNat = n + k := by omega
      go_wp2
      go_quiet (fail)
      go_wp2
      go_roundw
      case rel =>
        refine ⟨k + 1, by omega, by go_num, ?_, Hd.out.next _⟩
        have e : (S.drop n)[k]'(by simp; omega) = S[n + k]'(by omega) := by simp
        rw [take_snoc (S.drop n) k (by simp; omega), num_snoc, e]
        go_num
      case measure => simp [intOf]; omega
    · have hkz : k = z := by omega
      have Hkz := Lib.hid hkz
      clear hkz
      go_wp2
      go_ret2
      refine ⟨?_, (Hd.out.mod _).set1 _, ?_⟩
      · rw [← Hkz.out]; rfl
      · have h := (H.out.dr Hd.out).set1 (n + z)
        rw [Int.natCast_add] at h
        exact h

/-- The document's reader, by what is left of its text. -/
def AR (w : World) (c : Nat) (l : List UInt8) (br : Bool) : Prop :=
  ∃ S n, XR w c S n br ∧ n ≤ S.length ∧ S.length ≤ 4611686018427387904 ∧ l = if br then [] else S.drop n
theorem AR.later {T : Nat → Prop} {w w' : World} {c : Nat} {l : List UInt8} {br : Bool} (h : AR w c l br) (m : Mod T w w') (hs : ¬ T c) : AR w' c l br := by
  obtain ⟨S, n, h, r⟩ := h
  exact ⟨S, n, h.later m hs, r⟩
def hasN (l : List UInt8) (br : Bool) (n : Nat) : Bool := !br && decide (n ≤ l.length)
theorem ANum_any (c : Nat) (l : List UInt8) (br : Bool) (size : Int) (h0 : 0 < size) (h8 : size ≤ 8) (w : World) (h : AR w c l br) :
    Calls Try.prog 59 #[.pointer (some ⟨c, 0, none⟩), .int .i64 size] w fun e w' => e = .returned (.tuple #[.int .u64 (num (takeS l size.toNat)), .bool (hasN l br size.toNat)]) ∧ Mod (· = c) w w' ∧ AR w' c (takeL l size.toNat) (takeB l br size.toNat) := by
  obtain ⟨S, n, hx, hn, hS, rfl⟩ := h
  cases br with
  | true =>
    have hz : ¬ size.toNat ≤ ([] : List UInt8).length := by simp; omega
    refine (XNum_bad c S n size w hx).mono ?_
    rintro e w' ⟨rfl, hm, hr⟩
    simp only [if_true, takeS, takeL, takeB, if_neg hz, hasN]
    exact ⟨rfl, hm, S, n, hr, hn, hS, rfl⟩
  | false =>
    by_cases hs : size ≤ (S.length : Int) - n
    · have hz : size.toNat ≤ (S.drop n).length := by simp; omega
      refine (XNum_good c S n size (by omega) hn (by omega) h8 hs w hx).mono ?_
      rintro e w' ⟨rfl, hm, hr⟩
      simp only [Bool.false_eq_true, if_false, takeS, takeL, takeB, if_pos hz, hasN]
      refine ⟨by simp; omega, hm, S, _, hr, by omega, hS, by simp⟩
    · have hz : ¬ size.toNat ≤ (S.drop n).length := by simp; omega
      refine (XNum_short c S n size (by omega) hn (by omega) w hx).mono ?_
      rintro e w' ⟨rfl, hm, hr⟩
      simp only [Bool.false_eq_true, if_false, takeS, takeL, takeB, if_neg hz, hasN]
      exact ⟨by simp [num]; omega, hm, S, n, hr, hn, hS, rfl⟩
theorem ATwo_any (c : Nat) (l : List UInt8) (br : Bool) (w : World) (h : AR w c l br) :
    Calls Try.prog 35 #[.pointer (some ⟨c, 0, none⟩)] w fun e w' => e = .returned (.int .i64 (textN l)) ∧ Mod (· = c) w w' ∧ AR w' c (takeL l 2) (takeB l br 2) := by
  have H := Lib.hid h
  clear h
  have hb : num (takeS l 2) < 65536 := num_takeS l 2
  go_enter Try.func35, Try.ntmps35
  go_wp2_with (go_at_call 59; refine (ANum_any _ _ _ _ (by omega) (by omega) _ H.out).mono ?_; rintro e w1 ⟨rfl, hm, hr⟩)
  go_ret
  exact ⟨rfl, hm, hr⟩
theorem AR.nil {w : World} {c : Nat} {l : List UInt8} (h : AR w c l true) : l = [] := by
  obtain ⟨S, n, _, _, _, rfl⟩ := h
  rfl
theorem AR.setBad {w : World} {c : Nat} {l : List UInt8} {br : Bool} (h : AR w c l br) : AR (w.setCell ⟨c, 2, none⟩ (.bool true)) c [] true := by
  obtain ⟨S, n, hx, hn, hS, rfl⟩ := h
  exact ⟨S, n, hx.set2 true, hn, hS, rfl⟩
theorem AEight_any (c : Nat) (l : List UInt8) (br : Bool) (most : Int) (hm0 : -9223372036854775808 ≤ most) (hm1 : most ≤ 9223372036854775807) (w : World) (h : AR w c l br) :
    Calls Try.prog 36 #[.pointer (some ⟨c, 0, none⟩), .int .i64 most] w fun e w' => e = .returned (.int .i64 (eightV l most)) ∧ Mod (· = c) w w' ∧ AR w' c (eightL l most) (eightB l br most) := by
  have H := Lib.hid h
  clear h
  have hb : num (takeS l 8) < 18446744073709551616 := num_takeS l 8
  cases hi : hasN l br 8 with
  | false =>
    have hnil : takeS l 8 = [] := by
      cases br with
      | true => rw [H.out.nil]; rfl
      | false => exact if_neg (by simpa [hasN] using hi)
    have e1 : takeL l 8 = [] := by
      cases br with
      | true => rw [H.out.nil]; rfl
      | false => exact if_neg (by simpa [hasN] using hi)
    have e2 : takeB l br 8 = true := by
      cases br with
      | true => rw [H.out.nil]; rfl
      | false => exact if_neg (by simpa [hasN] using hi)
    have e3 : eightV l most = 0 := by rw [eightV, hnil]; split <;> rfl
    have e4 : eightL l most = [] := by rw [eightL, e1]; split <;> rfl
    have e5 : eightB l br most = true := by rw [eightB, e2]; split <;> rfl
    rw [e3, e4, e5]
    have E1 := Lib.hid e1
    have E2 := Lib.hid e2
    clear hnil e1 e2 e3 e4 e5
    go_enter Try.func36, Try.ntmps36
    go_wp2_with fail
    refine (ANum_any _ _ _ _ (by omega) (by omega) _ H.out).mono ?_
    rintro e w1 ⟨rfl, hm, hr⟩
    rw [show (8 : Int).toNat = 8 from rfl] at *
    rw [hi]
    rw [E1.out, E2.out] at hr
    go_wp2
    go_ret
    exact ⟨rfl, hm, hr⟩
  | true =>
    by_cases hneg : most < 0
    · have hk : eightOk l most = false := by simp [eightOk]; omega
      rw [eightV, eightL, eightB, hk]
      clear hk
      go_enter Try.func36, Try.ntmps36
      go_wp2_with fail
      refine (ANum_any _ _ _ _ (by omega) (by omega) _ H.out).mono ?_
      rintro e w1 ⟨rfl, hm, hr⟩
      rw [show (8 : Int).toNat = 8 from rfl] at *
      rw [hi]
      have Hm := Lib.hid hm
      have Hr := Lib.hid hr
      obtain ⟨S, n, ⟨c0, c1, c2, f1, f2⟩, _⟩ := hr
      clear hm
      go_wp2
      go_ret
      exact ⟨rfl, Hm.out.set1 _, Hr.out.setBad⟩
    · by_cases hgt : most < (num (takeS l 8) : Int)
      · have hk : eightOk l most = false := by simp [eightOk]; omega
        rw [eightV, eightL, eightB, hk]
        clear hk
        go_enter Try.func36, Try.ntmps36
        go_wp2_with fail
        refine (ANum_any _ _ _ _ (by omega) (by omega) _ H.out).mono ?_
        rintro e w1 ⟨rfl, hm, hr⟩
        rw [show (8 : Int).toNat = 8 from rfl] at *
        rw [hi]
        have Hm := Lib.hid hm
        have Hr := Lib.hid hr
        obtain ⟨S, n, ⟨c0, c1, c2, f1, f2⟩, _⟩ := hr
        clear hm
        go_wp2
        go_ret
        exact ⟨rfl, Hm.out.set1 _, Hr.out.setBad⟩
      · have hk : eightOk l most = true := by simp [eightOk]; omega
        rw [eightV, eightL, eightB, hk]
        clear hk
        go_enter Try.func36, Try.ntmps36
        go_wp2_with fail
        refine (ANum_any _ _ _ _ (by omega) (by omega) _ H.out).mono ?_
        rintro e w1 ⟨rfl, hm, hr⟩
        rw [show (8 : Int).toNat = 8 from rfl] at *
        rw [hi]
        go_wp2
        go_ret
        exact ⟨rfl, hm, hr⟩
theorem AEnd_any (c : Nat) (l : List UInt8) (br : Bool) (w : World) (h : AR w c l br) :
    Calls Try.prog 37 #[.pointer (some ⟨c, 0, none⟩)] w fun e w' => e = .returned (.int .i64 (endE l br)) ∧ Below w.heap.size w w' := by
  obtain ⟨S, n, ⟨c0, c1, c2, f1, f2⟩, hn, hS, rfl⟩ := h
  cases br with
  | true =>
    go_enter Try.func37, Try.ntmps37
    go_wp2
    go_quiet (fail)
    go_wp2
    go_ret
    exact ⟨rfl, below_drewN _ _⟩
  | false =>
    by_cases hlt : n < S.length
    · have e : endE (if false = true then [] else S.drop n) false = 10 := by
        simp [endE]; omega
      rw [e]
      clear e
      have hlt' : (n : Int) < (S.length : Int) := by omega
      go_enter Try.func37, Try.ntmps37
      go_wp2
      go_quiet (fail)
      go_wp2
      go_ret
      exact ⟨rfl, below_drewN _ _⟩
    · have e : endE (if false = true then [] else S.drop n) false = 0 := by
        simp [endE]; omega
      rw [e]
      clear e
      have hd : decide ((n : Int) < (S.length : Int)) = false := by simp; omega
      go_enter Try.func37, Try.ntmps37
      go_wp2
      go_quiet (fail)
      go_wp2
      go_ret
      exact ⟨rfl, below_drewN _ _⟩
end Go.Proofs.Ytnbhjehaecifcaa
