/- PLAIN: bytes are read as the list that they are, or as none. -/
import Derived.Test.YtnoidhfhnaemgaaDoorXb15
namespace Go.Proofs.YtnoidhfhnaemgaaDoor
open Go.RowKit

theorem be_num : ∀ (k : Nat) (t : List UInt8), t.length = k → be k (num t) = t
  | 0, t, h => by rw [List.length_eq_zero_iff.1 h]; rfl
  | k + 1, t, h => by
    obtain ⟨a, b, rfl⟩ : ∃ a b, t = a ++ [b] := ⟨t.dropLast, t.getLast (by intro e; rw [e] at h; cases h), (List.dropLast_concat_getLast _).symm⟩
    have ha : a.length = k := by simpa using h
    rw [be, num_snoc, show (num a * 256 + b.toNat) / 256 = num a by have := b.toNat_lt; omega, be_num k a ha]
    congr 2
    apply UInt8.toNat_inj.1
    simp
/-- What reading gives: the list whose bytes these are, or none. -/
structure ReadsN (s : List UInt8) (X : List Ent) (e : Int) : Prop where
  is : (e = 0 ∧ rightN X = true ∧ bytesN X = s) ∨ (e = 10 ∧ X = [] ∧ ∀ Y, rightN Y = true → bytesN Y ≠ s)
theorem ReadsN.same {s : List UInt8} {X Y : List Ent} {e f : Int} (h : ReadsN s X e) (k : ReadsN s Y f) : X = Y ∧ e = f := by
  rcases h.is with ⟨h1, h2, h3⟩ | ⟨h1, h2, h3⟩ <;> rcases k.is with ⟨k1, k2, k3⟩ | ⟨k1, k2, k3⟩
  · exact ⟨bytes_one (right_ok h2) (right_ok k2) (by rw [h3, k3]), by rw [h1, k1]⟩
  · exact absurd h3 (k3 X h2)
  · exact absurd k3 (h3 Y k2)
  · exact ⟨by rw [h2, k2], by rw [h1, k1]⟩
theorem ReadsN.back {X Y : List Ent} {e : Int} (hX : rightN X = true) (h : ReadsN (bytesN X) Y e) : Y = X ∧ e = 0 := h.same ⟨.inl ⟨rfl, hX, rfl⟩⟩
def entP (s : List UInt8) : Ent := (rtextS s, (num (takeS (rtextL s) 4) : Int))
def restP (s : List UInt8) : List UInt8 := takeL (rtextL s) 4
def badP (s : List UInt8) (br : Bool) : Bool := takeB (rtextL s) (rtextB s br) 4
/-- What was read so far, and what is left. -/
structure Par (s0 : List UInt8) (X : List Ent) (s : List UInt8) (br : Bool) : Prop where
  ok : br = false → bytesN X ++ s = s0
  of : ∀ Y, (∀ e ∈ Y, EntOk e) → bytesN Y = s0 → br = false ∧ ∃ Z, Y = X ++ Z ∧ bytesN Z = s
  len : X.length + s.length ≤ s0.length
theorem Par.first (s : List UInt8) : Par s [] s false := ⟨fun _ => rfl, fun Y _ h => ⟨rfl, Y, rfl, h⟩, by simp⟩
theorem takeL_le15 (s : List UInt8) (n : Nat) : (takeL s n).length ≤ s.length := by
  unfold takeL
  split
  · simp
  · simp
theorem takeL_lt (s : List UInt8) (n : Nat) (h : s ≠ []) (hn : 0 < n) : (takeL s n).length < s.length := by
  have : 0 < s.length := List.length_pos_iff.2 h
  unfold takeL
  split
  · simp; omega
  · simpa using this
theorem restP_lt {s : List UInt8} (h : s ≠ []) : (restP s).length < s.length := by
  have h1 := takeL_lt s 2 h (by omega)
  have h2 := takeL_le15 (takeL s 2) (textN s)
  have h3 := takeL_le15 (rtextL s) 4
  unfold restP
  unfold rtextL at h3 ⊢
  omega
theorem bytesN_append (a b : List Ent) : bytesN (a ++ b) = bytesN a ++ bytesN b := by simp [bytesN, partsN]
theorem bytesN_one (e : Ent) : bytesN [e] = be 2 e.1.length ++ (e.1 ++ be 4 e.2.toNat) := by
  rw [bytesN_cons]
  simp [bytesN, partsN]
theorem takeS_app {a b : List UInt8} {n : Nat} (h : a.length = n) : takeS (a ++ b) n = a ∧ takeL (a ++ b) n = b ∧ ∀ br, takeB (a ++ b) br n = br := by
  subst h
  refine ⟨?_, ?_, fun br => ?_⟩
  · rw [takeS, if_pos (by simp)]; simp
  · rw [takeL, if_pos (by simp)]; simp
  · rw [takeB, if_pos (by simp)]
theorem parse_ent {e : Ent} (he : EntOk e) (r : List UInt8) (br : Bool) : entP (be 2 e.1.length ++ (e.1 ++ (be 4 e.2.toNat ++ r))) = e ∧ restP (be 2 e.1.length ++ (e.1 ++ (be 4 e.2.toNat ++ r))) = r ∧ badP (be 2 e.1.length ++ (e.1 ++ (be 4 e.2.toNat ++ r))) br = br := by
  obtain ⟨h1, h2, h3⟩ := he
  obtain ⟨n, x⟩ := e
  obtain ⟨a1, a2, a3⟩ := takeS_app (a := be 2 n.length) (b := n ++ (be 4 x.toNat ++ r)) (n := 2) (be_length _ _)
  have a4 : textN (be 2 n.length ++ (n ++ (be 4 x.toNat ++ r))) = n.length := by
    rw [textN, a1, num_be]
    exact Nat.mod_eq_of_lt (by simp only at h1; omega)
  obtain ⟨b1, b2, b3⟩ := takeS_app (a := n) (b := be 4 x.toNat ++ r) (n := n.length) rfl
  obtain ⟨c1, c2, c3⟩ := takeS_app (a := be 4 x.toNat) (b := r) (n := 4) (be_length _ _)
  have e1 : rtextS (be 2 n.length ++ (n ++ (be 4 x.toNat ++ r))) = n := by rw [rtextS, a2, a4, b1]
  have e2 : rtextL (be 2 n.length ++ (n ++ (be 4 x.toNat ++ r))) = be 4 x.toNat ++ r := by rw [rtextL, a2, a4, b2]
  have e3 : rtextB (be 2 n.length ++ (n ++ (be 4 x.toNat ++ r))) br = br := by rw [rtextB, a2, a3, a4, b3]
  refine ⟨?_, ?_, ?_⟩
  · show entP _ = (n, x)
    rw [entP, e1, e2, c1, num_be]
    simp only at h2 h3
    rw [Nat.mod_eq_of_lt (by omega)]
    exact Prod.ext rfl (by simp only; omega)
  · rw [restP, e2, c2]
  · rw [badP, e2, e3, c3]
theorem takeB_false {s : List UInt8} {br : Bool} {n : Nat} (h : takeB s br n = false) : n ≤ s.length ∧ br = false := by
  unfold takeB at h
  split at h
  · exact ⟨‹_›, h⟩
  · cases h
theorem bytes_ent {s : List UInt8} {br : Bool} (h : badP s br = false) : br = false ∧ bytesN [entP s] ++ restP s = s := by
  obtain ⟨h1, h2⟩ := takeB_false h
  rw [rtextB] at h2
  obtain ⟨h3, h4⟩ := takeB_false h2
  obtain ⟨h5, h6⟩ := takeB_false h4
  refine ⟨h6, ?_⟩
  have e1 : takeL s 2 = s.drop 2 := by rw [takeL, if_pos h5]
  have e2 : rtextS s = (s.drop 2).take (textN s) := by rw [rtextS, takeS, if_pos h3, e1]
  have e3 : rtextL s = (s.drop 2).drop (textN s) := by rw [rtextL, takeL, if_pos h3, e1]
  have l1 : (rtextS s).length = textN s := by
    rw [e2, List.length_take]
    rw [e1] at h3
    omega
  have e4 : be 2 (textN s) = s.take 2 := by
    rw [textN, takeS, if_pos h5]
    exact be_num 2 _ (by rw [List.length_take]; omega)
  have e5 : be 4 (num (takeS (rtextL s) 4)) = (rtextL s).take 4 := by
    rw [takeS, if_pos h1]
    exact be_num 4 _ (by rw [List.length_take]; omega)
  have e6 : restP s = (rtextL s).drop 4 := by rw [restP, takeL, if_pos h1]
  rw [bytesN_one, entP]
  simp only [Int.toNat_natCast]
  rw [l1, e4, e5, e6, e2, List.append_assoc, List.append_assoc, List.take_append_drop, e3, List.take_append_drop, List.take_append_drop]
theorem Par.step {s0 s : List UInt8} {X : List Ent} {br : Bool} (h : Par s0 X s br) (hs : s ≠ []) : Par s0 (X ++ [entP s]) (restP s) (badP s br) := by
  refine ⟨fun hb => ?_, fun Y hY he => ?_, ?_⟩
  · obtain ⟨h1, h2⟩ := bytes_ent hb
    rw [bytesN_append, List.append_assoc, h2]
    exact h.ok h1
  · obtain ⟨h1, Z, rfl, h3⟩ := h.of Y hY he
    cases Z with
    | nil => exact absurd h3.symm hs
    | cons z Z =>
      rw [bytesN_cons] at h3
      have hz := hY z (by simp)
      obtain ⟨p1, p2, p3⟩ := parse_ent hz (bytesN Z) br
      rw [h3] at p1 p2 p3
      exact ⟨by rw [p3, h1], Z, by rw [p1]; simp, p2.symm⟩
  · have := restP_lt hs
    have := h.len
    rw [List.length_append, List.length_singleton]
    omega
theorem bytesN_nil {Z : List Ent} (h : bytesN Z = []) : Z = [] := by
  cases Z with
  | nil => rfl
  | cons z Z =>
    have := congrArg List.length h
    rw [bytesN_cons] at this
    simp [be_length] at this
theorem Par.of_end {s0 : List UInt8} {X : List Ent} {br : Bool} (h : Par s0 X [] br) {Y : List Ent} (hY : rightN Y = true) (he : bytesN Y = s0) : br = false ∧ Y = X := by
  obtain ⟨h1, Z, h2, h3⟩ := h.of Y (right_ok hY) he
  rw [bytesN_nil h3, List.append_nil] at h2
  exact ⟨h1, h2⟩
theorem Par.no {s0 : List UInt8} {X : List Ent} {br : Bool} (h : Par s0 X [] br) (hn : ¬ (rightN X = true ∧ bytesN X = s0)) : ReadsN s0 [] 10 := ⟨.inr ⟨rfl, rfl, fun Y hY he => by
  obtain ⟨_, rfl⟩ := h.of_end hY he
  exact hn ⟨hY, he⟩⟩⟩
theorem Par.yes {s0 : List UInt8} {X : List Ent} (hr : rightN X = true) (hb : bytesN X = s0) : ReadsN s0 X 0 := ⟨.inl ⟨rfl, hr, hb⟩⟩
def lenV : Value → Nat
  | .slice _ n _ => n
  | _ => 0
end Go.Proofs.YtnoidhfhnaemgaaDoor
