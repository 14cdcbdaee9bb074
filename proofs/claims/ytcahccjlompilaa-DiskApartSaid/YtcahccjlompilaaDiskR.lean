/- What is read, and what is swapped. -/
import Derived.Test.YtcahccjlompilaaLast04
namespace Go.Proofs.Ytcahccjlompilaa
open Go.RowKit Go.MapKept

/-- What a key reads in a sector. -/
def readS (s : DS) (k : Int) (i : Nat) : List UInt8 := if lastB (s.caches k) i = true then lastS (s.caches k) i else s.lies.getD i []
section
variable {w : World} {b n : Nat} {ρ : Nat → Role} {s : DS} {lb kb cb : Nat} {pv : Value} {cf : Int → Option Value}
theorem Read_arg (h : Dk w b ρ n s lb kb cb pv cf) {k i : Int} (ht : thereB s i = false) :
    Calls Try.prog 34 #[.pointer (some ⟨b, 0, none⟩), .int .i64 k, .int .i64 i] w fun e w' => e = .returned (.tuple #[.string (str []), .int .i64 1]) ∧ w = w' := by
  go_enter Try.func34, Try.ntmps34
  go_wp2_with fail
  refine (there_any h _).mono ?_
  rw [ht]
  rintro e w1 ⟨rfl, rfl⟩
  go_wp2
  go_ret2
  exact ⟨rfl, rfl⟩
theorem Read_no (h : Dk w b ρ n s lb kb cb pv cf) {k i : Int} (hk : (Lit.int .i64 k).wf = true) (ht : thereB s i = true) (hr : s.keys k ≠ 1) :
    Calls Try.prog 34 #[.pointer (some ⟨b, 0, none⟩), .int .i64 k, .int .i64 i] w fun e w' => e = .returned (.tuple #[.string (str []), .int .i64 14]) ∧ w = w' := by
  have hr' : (s.keys k == 1) = false := beq_no hr
  clear hr
  go_enter Try.func34, Try.ntmps34
  go_wp2_with fail
  refine (there_any h _).mono ?_
  rw [ht]
  rintro e w1 ⟨rfl, rfl⟩
  go_wp2_with fail
  refine (Registered_any h hk).mono ?_
  rw [hr']
  rintro e w1 ⟨rfl, rfl⟩
  go_wp2
  go_ret2
  exact ⟨rfl, rfl⟩
theorem Read_yes (h : Dk w b ρ n s lb kb cb pv cf) {k : Int} {i : Nat} (hk : (Lit.int .i64 k).wf = true) (hi : i < s.lies.length) (hr : s.keys k = 1) :
    Calls Try.prog 34 #[.pointer (some ⟨b, 0, none⟩), .int .i64 k, .int .i64 (i : Int)] w fun e w' => e = .returned (.tuple #[.string (str (readS s k i)), .int .i64 0]) ∧ Below w.heap.size w w' := by
  have ht : thereB s i = true := by simp [thereB]; omega
  have hr' : (s.keys k == 1) = true := beq_yes hr
  have hm := h.fine.many
  clear hr
  cases hlb : lastB (s.caches k) i with
  | true =>
    have e : readS s k i = lastS (s.caches k) i := by rw [readS, if_pos hlb]
    rw [e]
    have Hlb := Lib.hid hlb
    clear e hlb
    go_enter Try.func34, Try.ntmps34
    go_wp2_with fail
    refine (there_any h _).mono ?_
    rw [ht]
    rintro e w1 ⟨rfl, rfl⟩
    go_wp2_with fail
    refine (Registered_any h hk).mono ?_
    rw [hr']
    rintro e w1 ⟨rfl, rfl⟩
    go_wp2_with fail
    refine (last_any h hk i).mono ?_
    rw [Hlb.out]
    rintro e w2 ⟨rfl, hb⟩
    go_wp2
    go_ret2
    exact ⟨rfl, hb⟩
  | false =>
    have e : readS s k i = s.lies[i] := by rw [readS, if_neg (by rw [hlb]; decide), List.getD_eq_getElem?_getD, List.getElem?_eq_getElem hi]; rfl
    rw [e]
    have Hlb := Lib.hid hlb
    clear e hlb
    go_enter Try.func34, Try.ntmps34
    go_wp2_with fail
    refine (there_any h _).mono ?_
    rw [ht]
    rintro e w1 ⟨rfl, rfl⟩
    go_wp2_with fail
    refine (Registered_any h hk).mono ?_
    rw [hr']
    rintro e w1 ⟨rfl, rfl⟩
    go_wp2_with fail
    refine (last_any h hk i).mono ?_
    rw [Hlb.out]
    rintro e w2 ⟨rfl, hb⟩
    have h2 := h.later (Mod.of_below (S := fun _ => False) hb) (fun _ => False.elim)
    have c0 := h2.c0
    have lie := h2.lie i hi
    have H2 := Lib.hid h2
    clear h2
    go_wp2
    go_ret2
    exact ⟨rfl, hb⟩
/-- What Swap tells a registered key of bytes that may lie there. -/
def swapE (s : DS) (k : Int) (i : Nat) (old : List UInt8) : Int := if lastB (s.caches k) i = true then 13 else if s.lies.getD i [] = old then 0 else 16
def swapS (s : DS) (k : Int) (i : Nat) (old now : List UInt8) : DS := if lastB (s.caches k) i = true then s else if s.lies.getD i [] = old then s.lie i now else s
theorem Swap_yes (h : Dk w b ρ n s lb kb cb pv cf) {k : Int} {i : Nat} {old now : List UInt8} (hk : (Lit.int .i64 k).wf = true) (hi : i < s.lies.length) (ho : old.length = 512) (hw : now.length = 512) (hr : s.keys k = 1) :
    Calls Try.prog 24 #[.pointer (some ⟨b, 0, none⟩), .int .i64 k, .int .i64 (i : Int), .string (str old), .string (str now)] w (Did w b ρ n (swapS s k i old now) (.int .i64 (swapE s k i old))) := by
  have ht : thereB s i = true := by simp [thereB]; omega
  have hr' : (s.keys k == 1) = true := beq_yes hr
  have ho' : decide (old.length = 512) = true := by simpa using ho
  have hw' : decide (now.length = 512) = true := by simpa using hw
  have hm := h.fine.many
  have Hw := Lib.hid hw
  clear hr ho hw
  cases hlb : lastB (s.caches k) i with
  | true =>
    have e1 : swapE s k i old = 13 := by rw [swapE, if_pos hlb]
    have e2 : swapS s k i old now = s := by rw [swapS, if_pos hlb]
    rw [e1, e2]
    have Hlb := Lib.hid hlb
    clear e1 e2 hlb
    go_enter Try.func24, Try.ntmps24
    go_wp2_with fail
    refine (there_any h _).mono ?_
    rw [ht]
    rintro e w1 ⟨rfl, rfl⟩
    go_wp2_with fail
    refine (whole_any _ _).mono ?_
    rw [ho']
    rintro e w1 ⟨rfl, rfl⟩
    go_wp2_with fail
    refine (whole_any _ _).mono ?_
    rw [hw']
    rintro e w1 ⟨rfl, rfl⟩
    go_wp2_with fail
    refine (Registered_any h hk).mono ?_
    rw [hr']
    rintro e w1 ⟨rfl, rfl⟩
    go_wp2_with fail
    refine (last_any h hk i).mono ?_
    rw [Hlb.out]
    rintro e w2 ⟨rfl, hb⟩
    go_wp2
    go_ret
    exact ⟨rfl, ρ, ⟨_, _, _, _, _, h.later (Mod.of_below (S := fun _ => False) hb) (fun _ => False.elim)⟩, ⟨Mod.of_below hb, fun _ _ h => h⟩⟩
  | false =>
    have hg : s.lies.getD i [] = s.lies[i] := by rw [List.getD_eq_getElem?_getD, List.getElem?_eq_getElem hi]; rfl
    by_cases heq : s.lies[i] = old
    · have e1 : swapE s k i old = 0 := by rw [swapE, if_neg (by rw [hlb]; decide), hg, if_pos heq]
      have e2 : swapS s k i old now = s.lie i now := by rw [swapS, if_neg (by rw [hlb]; decide), hg, if_pos heq]
      rw [e1, e2]
      have Hlb := Lib.hid hlb
      clear e1 e2 hlb
      subst heq
      go_enter Try.func24, Try.ntmps24
      go_wp2_with fail
      refine (there_any h _).mono ?_
      rw [ht]
      rintro e w1 ⟨rfl, rfl⟩
      go_wp2_with fail
      refine (whole_any _ _).mono ?_
      rw [ho']
      rintro e w1 ⟨rfl, rfl⟩
      go_wp2_with fail
      refine (whole_any _ _).mono ?_
      rw [hw']
      rintro e w1 ⟨rfl, rfl⟩
      go_wp2_with fail
      refine (Registered_any h hk).mono ?_
      rw [hr']
      rintro e w1 ⟨rfl, rfl⟩
      go_wp2_with fail
      refine (last_any h hk i).mono ?_
      rw [Hlb.out]
      rintro e w2 ⟨rfl, hb⟩
      have h2 := h.later (Mod.of_below (S := fun _ => False) hb) (fun _ => False.elim)
      have c0 := h2.c0
      have lie := h2.lie i hi
      have free := h2.free i hi
      have H2 := Lib.hid h2
      have Hb := Lib.hid hb
      clear h2 hb
      go_wp2
      go_ret
      exact ⟨rfl, ρ, ⟨_, _, _, _, _, H2.out.lieTo i now Hw.out⟩, ⟨(Mod.of_below Hb.out).setCell (p := ⟨lb, i, none⟩) (.inl (by rw [H2.out.rl]; intro e; cases e)) _, fun _ _ h => h⟩⟩
    · have e1 : swapE s k i old = 16 := by rw [swapE, if_neg (by rw [hlb]; decide), hg, if_neg heq]
      have e2 : swapS s k i old now = s := by rw [swapS, if_neg (by rw [hlb]; decide), hg, if_neg heq]
      rw [e1, e2]
      have Hlb := Lib.hid hlb
      have hne : (s.lies[i] == old) = false := by simpa using heq
      clear e1 e2 hlb heq
      go_enter Try.func24, Try.ntmps24
      go_wp2_with fail
      refine (there_any h _).mono ?_
      rw [ht]
      rintro e w1 ⟨rfl, rfl⟩
      go_wp2_with fail
      refine (whole_any _ _).mono ?_
      rw [ho']
      rintro e w1 ⟨rfl, rfl⟩
      go_wp2_with fail
      refine (whole_any _ _).mono ?_
      rw [hw']
      rintro e w1 ⟨rfl, rfl⟩
      go_wp2_with fail
      refine (Registered_any h hk).mono ?_
      rw [hr']
      rintro e w1 ⟨rfl, rfl⟩
      go_wp2_with fail
      refine (last_any h hk i).mono ?_
      rw [Hlb.out]
      rintro e w2 ⟨rfl, hb⟩
      have h2 := h.later (Mod.of_below (S := fun _ => False) hb) (fun _ => False.elim)
      have c0 := h2.c0
      have lie := h2.lie i hi
      have H2 := Lib.hid h2
      have Hb := Lib.hid hb
      clear h2 hb
      go_wp2
      go_ret
      exact ⟨rfl, ρ, ⟨_, _, _, _, _, H2.out⟩, ⟨Mod.of_below Hb.out, fun _ _ h => h⟩⟩
theorem Swap_no (h : Dk w b ρ n s lb kb cb pv cf) {k i : Int} {old now : List UInt8} (hk : (Lit.int .i64 k).wf = true) (ht : thereB s i = true) (ho : old.length = 512) (hw : now.length = 512) (hr : s.keys k ≠ 1) :
    Calls Try.prog 24 #[.pointer (some ⟨b, 0, none⟩), .int .i64 k, .int .i64 i, .string (str old), .string (str now)] w fun e w' => e = .returned (.int .i64 14) ∧ w = w' := by
  have hr' : (s.keys k == 1) = false := beq_no hr
  have ho' : decide (old.length = 512) = true := by simpa using ho
  have hw' : decide (now.length = 512) = true := by simpa using hw
  clear hr ho hw
  go_enter Try.func24, Try.ntmps24
  go_wp2_with fail
  refine (there_any h _).mono ?_
  rw [ht]
  rintro e w1 ⟨rfl, rfl⟩
  go_wp2_with fail
  refine (whole_any _ _).mono ?_
  rw [ho']
  rintro e w1 ⟨rfl, rfl⟩
  go_wp2_with fail
  refine (whole_any _ _).mono ?_
  rw [hw']
  rintro e w1 ⟨rfl, rfl⟩
  go_wp2_with fail
  refine (Registered_any h hk).mono ?_
  rw [hr']
  rintro e w1 ⟨rfl, rfl⟩
  go_wp2
  go_ret
  exact ⟨rfl, rfl⟩
theorem Swap_arg (h : Dk w b ρ n s lb kb cb pv cf) {k i : Int} {old now : List UInt8} (ha : thereB s i = false ∨ old.length ≠ 512 ∨ now.length ≠ 512) :
    Calls Try.prog 24 #[.pointer (some ⟨b, 0, none⟩), .int .i64 k, .int .i64 i, .string (str old), .string (str now)] w fun e w' => e = .returned (.int .i64 1) ∧ w = w' := by
  cases ht : thereB s i with
  | false =>
    clear ha
    go_enter Try.func24, Try.ntmps24
    go_wp2_with fail
    refine (there_any h _).mono ?_
    rw [ht]
    rintro e w1 ⟨rfl, rfl⟩
    go_wp2
    go_ret
    exact ⟨rfl, rfl⟩
  | true =>
    by_cases ho : old.length = 512
    · have hw : now.length ≠ 512 := by
        rcases ha with h | h | h
        · rw [ht] at h; cases h
        · exact absurd ho h
        · exact h
      have ho' : decide (old.length = 512) = true := by simpa using ho
      have hw' : decide (now.length = 512) = false := by simpa using hw
      clear ho hw ha
      go_enter Try.func24, Try.ntmps24
      go_wp2_with fail
      refine (there_any h _).mono ?_
      rw [ht]
      rintro e w1 ⟨rfl, rfl⟩
      go_wp2_with fail
      refine (whole_any _ _).mono ?_
      rw [ho']
      rintro e w1 ⟨rfl, rfl⟩
      go_wp2_with fail
      refine (whole_any _ _).mono ?_
      rw [hw']
      rintro e w1 ⟨rfl, rfl⟩
      go_wp2
      go_ret
      exact ⟨rfl, rfl⟩
    · have ho' : decide (old.length = 512) = false := by simpa using ho
      clear ho ha
      go_enter Try.func24, Try.ntmps24
      go_wp2_with fail
      refine (there_any h _).mono ?_
      rw [ht]
      rintro e w1 ⟨rfl, rfl⟩
      go_wp2_with fail
      refine (whole_any _ _).mono ?_
      rw [ho']
      rintro e w1 ⟨rfl, rfl⟩
      go_wp2
      go_ret
      exact ⟨rfl, rfl⟩
end
section
variable {W w : World} {b n : Nat} {s : DS} {T : Nat → Prop}
theorem Read_own (h : Own W w b n s T) {k : Int} {i : Nat} (hk : (Lit.int .i64 k).wf = true) (hi : i < s.lies.length) (hr : s.keys k = 1) :
    Calls Try.prog 34 #[.pointer (some ⟨b, 0, none⟩), .int .i64 k, .int .i64 (i : Int)] w fun e w' => e = .returned (.tuple #[.string (str (readS s k i)), .int .i64 0]) ∧ Below w.heap.size w w' := by
  obtain ⟨ρ, ⟨lb, kb, cb, pv, cf, h1⟩, _⟩ := h
  exact Read_yes h1 hk hi hr
theorem Read_fenced (h : Own W w b n s T) {k i : Int} (hk : (Lit.int .i64 k).wf = true) (ht : thereB s i = true) (hr : s.keys k ≠ 1) :
    Calls Try.prog 34 #[.pointer (some ⟨b, 0, none⟩), .int .i64 k, .int .i64 i] w fun e w' => e = .returned (.tuple #[.string (str []), .int .i64 14]) ∧ w = w' :=
  h.read fun _ _ _ _ _ _ h => Read_no h hk ht hr
theorem Swap_own (h : Own W w b n s T) {k : Int} {i : Nat} {old now : List UInt8} (hk : (Lit.int .i64 k).wf = true) (hi : i < s.lies.length) (ho : old.length = 512) (hw : now.length = 512) (hr : s.keys k = 1) :
    Calls Try.prog 24 #[.pointer (some ⟨b, 0, none⟩), .int .i64 k, .int .i64 (i : Int), .string (str old), .string (str now)] w fun e w' => e = .returned (.int .i64 (swapE s k i old)) ∧ Own W w' b n (swapS s k i old now) T ∧ Left W T w w' :=
  h.lift fun _ _ _ _ _ _ h _ => Swap_yes h hk hi ho hw hr
theorem Swap_fenced (h : Own W w b n s T) {k i : Int} {old now : List UInt8} (hk : (Lit.int .i64 k).wf = true) (ht : thereB s i = true) (ho : old.length = 512) (hw : now.length = 512) (hr : s.keys k ≠ 1) :
    Calls Try.prog 24 #[.pointer (some ⟨b, 0, none⟩), .int .i64 k, .int .i64 i, .string (str old), .string (str now)] w fun e w' => e = .returned (.int .i64 14) ∧ w = w' :=
  h.read fun _ _ _ _ _ _ h => Swap_no h hk ht ho hw hr
end
end Go.Proofs.Ytcahccjlompilaa
