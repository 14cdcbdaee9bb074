/- Plain lemmas of this seat's walks: byte strings as lists, numbers as bytes, and which blocks of memory a call may have touched. -/
import Derived.WalkKit
import Derived.ProofKit
import Derived.OpenShut
import Derived.Handy
import Derived.Lib.Hide
import Derived.Lib.Strings
import Derived.Lib.Repeat
import Derived.Laws.BytesArg
import Derived.WalkLawsBesides
import Derived.WalkSpells
import Derived.Deep.QuietTactic
import Derived.BigQuiet
namespace Go.Proofs.YtiomhdanmcnaeaaGreatDoor
open Go.RowKit

/-- A string by its bytes. -/
def str (l : List UInt8) : ByteArray := ⟨l.toArray⟩
theorem str_of (s : ByteArray) : ∃ l, s = str l := ⟨s.data.toList, by simp [str]⟩
@[go_sem] theorem str_size (l : List UInt8) : (str l).size = l.length := by simp [str, ByteArray.size]
@[go_sem] theorem str_toList (l : List UInt8) : (str l).toList = l := by simp [str]
@[go_sem] theorem str_data (l : List UInt8) : (str l).data = l.toArray := rfl
@[go_sem] theorem str_append (a b : List UInt8) : str a ++ str b = str (a ++ b) := ByteArray.mk_append_mk a b
@[go_sem] theorem str_append_nil (a : List UInt8) : str a ++ (⟨#[]⟩ : ByteArray) = str a := by
  have := str_append a []; simpa [str] using this
@[go_sem] theorem str_extract (l : List UInt8) (a b : Nat) : (str l).extract a b = str ((l.drop a).take (b - a)) := by
  rw [Lib.extract_eq]; simp [str]
@[go_sem high] theorem str_extract_to (l : List UInt8) (b : Nat) : (str l).extract 0 b = str (l.take b) := by rw [str_extract]; simp
@[go_sem high] theorem str_extract_from (l : List UInt8) (a : Nat) : (str l).extract a l.length = str (l.drop a) := by
  rw [str_extract, List.take_of_length_le (by simp)]
@[go_sem] theorem str_get (l : List UInt8) (k : Nat) (h : k < (str l).size) : (str l)[k]'h = l[k]'(by simpa [str, ByteArray.size] using h) := by
  simp [str, ByteArray.getElem_eq_getElem_data]
theorem str_inj {a b : List UInt8} : str a = str b ↔ a = b := by
  constructor
  · intro h; have := congrArg ByteArray.toList h; simpa [str_toList] using this
  · rintro rfl; rfl

/-- n as k bytes, the greatest first. -/
def be : Nat → Nat → List UInt8
  | 0, _ => []
  | k + 1, n => be k (n / 256) ++ [UInt8.ofNat n]
theorem be_length : ∀ k n, (be k n).length = k
  | 0, _ => rfl
  | k + 1, n => by simp [be, be_length k]
/-- What so many bytes say. -/
def num (l : List UInt8) : Nat := l.foldl (fun n b => n * 256 + b.toNat) 0
theorem num_snoc (l : List UInt8) (b : UInt8) : num (l ++ [b]) = num l * 256 + b.toNat := by simp [num]
theorem num_be : ∀ k n, num (be k n) = n % 256 ^ k
  | 0, n => by simp [be, num, Nat.mod_one]
  | k + 1, n => by
    rw [be, num_snoc, num_be k]
    have h : (UInt8.ofNat n).toNat = n % 256 := by simp
    rw [h, Nat.pow_succ, Nat.mul_comm (256 ^ k) 256, Nat.mod_mul]
    omega
theorem num_from : ∀ (l : List UInt8) (n : Nat), l.foldl (fun n b => n * 256 + b.toNat) n + 1 ≤ (n + 1) * 256 ^ l.length
  | [], n => by simp
  | b :: l, n => by
    have h := num_from l (n * 256 + b.toNat)
    have hb := b.toNat_lt
    rw [List.foldl_cons, List.length_cons, Nat.pow_succ, Nat.mul_comm (256 ^ l.length) 256, ← Nat.mul_assoc]
    have h2 : (n * 256 + b.toNat + 1) * 256 ^ l.length ≤ ((n + 1) * 256) * 256 ^ l.length := Nat.mul_le_mul_right _ (by omega)
    omega
theorem num_lt (l : List UInt8) : num l < 256 ^ l.length := by
  have h := num_from l 0
  simp at h
  exact h

theorem u8m (n : Nat) : UInt8.ofNat (n % 256) = UInt8.ofNat n := by
  apply UInt8.toNat_inj.1
  simp
theorem ret_str {a b : List UInt8} (h : a = b) : Ending.returned (.string (str a)) = .returned (.string (str b)) := by rw [h]
theorem ret_int {k : IntKind} {a b : Int} (h : a = b) : Ending.returned (.int k a) = .returned (.int k b) := by rw [h]
theorem ret_bool {a b : Bool} (h : a = b) : Ending.returned (.bool a) = .returned (.bool b) := by rw [h]

theorem or_byte (n b : Nat) (hn : n < 72057594037927936) (hb : b < 256) : bits .or .u64 (IntKind.u64.wrap ((n : Int) * 256)) (IntKind.u64.wrap (b : Int)) = ((n * 256 + b : Nat) : Int) := by
  have h1 : IntKind.u64.wrap ((n : Int) * 256) = ((n * 256 : Nat) : Int) := by rw [IntWalk.u64_in _ (by omega)]; omega
  have h2 : IntKind.u64.wrap (b : Int) = ((b : Nat) : Int) := IntWalk.u64_in _ (by omega)
  rw [h1, h2, u64_or_nat _ _ (by omega) (by omega)]
  have h := Nat.shiftLeft_add_eq_or_of_lt (i := 8) (b := b) (by omega) n
  rw [Nat.shiftLeft_eq] at h
  rw [← h]
theorem take_snoc (l : List UInt8) (k : Nat) (h : k < l.length) : l.take (k + 1) = l.take k ++ [l[k]] := by
  rw [List.take_succ_eq_append_getElem h]
/-- Behind a call all blocks that there were, but those of which S says so, are as they were. -/
structure Mod (S : Nat → Prop) (w w' : World) : Prop where
  os : w'.os = w.os
  tape : w'.tape = w.tape
  output : w'.output = w.output
  size : w.heap.size ≤ w'.heap.size
  block : ∀ k, k < w.heap.size → ¬ S k → w'.heap[k]? = w.heap[k]?
theorem Mod.refl (S : Nat → Prop) (w : World) : Mod S w w := ⟨rfl, rfl, rfl, Nat.le_refl _, fun _ _ _ => rfl⟩
theorem Mod.trans {S : Nat → Prop} {a b c : World} (h : Mod S a b) (k : Mod S b c) : Mod S a c :=
  ⟨k.os.trans h.os, k.tape.trans h.tape, k.output.trans h.output, Nat.le_trans h.size k.size,
    fun i hi hs => (k.block i (Nat.lt_of_lt_of_le hi h.size) hs).trans (h.block i hi hs)⟩
theorem Mod.mono {S T : Nat → Prop} {a b : World} (h : Mod S a b) (hst : ∀ k, k < a.heap.size → S k → T k) : Mod T a b :=
  ⟨h.os, h.tape, h.output, h.size, fun k hk hn => h.block k hk fun hs => hn (hst k hk hs)⟩
theorem Mod.of_below {S : Nat → Prop} {a b : World} (h : Below a.heap.size a b) : Mod S a b :=
  ⟨h.os, h.tape, h.output, h.size, fun k hk _ => h.block k hk⟩
theorem Mod.below {S : Nat → Prop} {B : Nat} {w a b : World} (h : Below B w a) (k : Mod S a b) (hB : B ≤ a.heap.size) (hs : ∀ i, S i → B ≤ i) : Below B w b :=
  h.trans ⟨k.os, k.tape, k.output, k.size, fun i hi => k.block i (Nat.lt_of_lt_of_le hi hB) fun hsi => by have := hs i hsi; omega⟩
theorem Mod.to_below {S : Nat → Prop} {a b : World} (k : Mod S a b) (hs : ∀ i, i < a.heap.size → ¬ S i) : Below a.heap.size a b :=
  ⟨k.os, k.tape, k.output, k.size, fun i hi => k.block i hi (hs i hi)⟩
theorem Mod.cell {S : Nat → Prop} {a b : World} (h : Mod S a b) {p : Addr} (hp : p.block < a.heap.size) (hs : ¬ S p.block) : b.cell? p = a.cell? p :=
  World.cell?_of_block (w := a) (h.block p.block hp hs)
theorem Mod.frozen {S : Nat → Prop} {a b : World} (h : Mod S a b) {p : Addr} (hp : p.block < a.heap.size) (hs : ¬ S p.block) : b.frozen? p = a.frozen? p :=
  World.frozen?_of_block (w := a) (h.block p.block hp hs)
theorem Mod.drew {S : Nat → Prop} {a b : World} (h : Mod S a b) : Mod S a b.drew := ⟨h.os, h.tape, h.output, h.size, h.block⟩
theorem Mod.drewN {S : Nat → Prop} {a b : World} (h : Mod S a b) (n : Nat) : Mod S a (b.drewN n) := ⟨h.os, h.tape, h.output, h.size, h.block⟩
theorem Mod.alloc {S : Nat → Prop} {a b : World} (h : Mod S a b) (o : Obj) : Mod S a (b.alloc o) :=
  ⟨h.os, h.tape, h.output, by have := h.size; simp; omega, fun k hk hs => (Below.heap_alloc b o k (by have := h.size; omega)).trans (h.block k hk hs)⟩
theorem Mod.setCell {S : Nat → Prop} {a b : World} (h : Mod S a b) {p : Addr} (hp : S p.block ∨ a.heap.size ≤ p.block) (v : Value) : Mod S a (b.setCell p v) :=
  ⟨h.os, h.tape, h.output, by have := h.size; simpa [World.setCell] using this,
    fun k hk hs => (Below.heap_setCell b p v k (by rintro rfl; rcases hp with hp | hp; exact hs hp; omega)).trans (h.block k hk hs)⟩

theorem Mod.set1 {b o : Nat} {w w' : World} (h : Mod (· = b) w w') (v : Value) : Mod (· = b) w (w'.setCell ⟨b, o, none⟩ v) := h.setCell (.inl rfl) v

theorem below_drewN (w : World) (n : Nat) : Below w.heap.size w (w.drewN n) := ((Mod.refl (fun _ => False) w).drewN n).to_below fun _ _ => id

theorem bnext {w a b : World} (h : Below w.heap.size w a) (k : Below a.heap.size a b) : Below w.heap.size w b := h.trans (k.mono h.size)
theorem balloc {w a : World} (h : Below w.heap.size w a) (o : Obj) : Below w.heap.size w (a.alloc o) := h.alloc h.size o
theorem bmod {w a b : World} {c : Nat} (h : Below w.heap.size w a) (k : Mod (· = c) a b) (hc : w.heap.size ≤ c) : Below w.heap.size w b :=
  k.below h h.size (by rintro i rfl; exact hc)

/-- A cell that can be read lies in a block that there is. -/
theorem lt_of_cell {w : World} {b o : Nat} {v : Value} (h : w.cell? ⟨b, o, none⟩ = some v) : b < w.heap.size := by
  rcases Nat.lt_or_ge b w.heap.size with h' | h'
  · exact h'
  · simp [World.cell?, Array.getElem?_eq_none h'] at h

theorem repeatL_one (b : UInt8) : ∀ n, Lib.repeatL [b] n = List.replicate n b
  | 0 => rfl
  | n + 1 => by rw [List.replicate_succ, ← repeatL_one b n]; rfl

/-! ### what package pack gives -/
def textS (l : List UInt8) : List UInt8 := if l.length ≤ 65535 then be 2 l.length ++ l else []
def textE (l : List UInt8) : Int := if l.length ≤ 65535 then 0 else 11
def fillS (l : List UInt8) : List UInt8 := if l.length ≤ 510 then be 2 l.length ++ l ++ List.replicate (510 - l.length) 0 else []
def fillE (l : List UInt8) : Int := if l.length ≤ 510 then 0 else 11

/-- What is read: the bytes, and the reader's state behind. -/
def takeS (l : List UInt8) (n : Nat) : List UInt8 := if n ≤ l.length then l.take n else []
def takeL (l : List UInt8) (n : Nat) : List UInt8 := if n ≤ l.length then l.drop n else []
def takeB (l : List UInt8) (br : Bool) (n : Nat) : Bool := if n ≤ l.length then br else true
theorem takeS_le (l : List UInt8) (n : Nat) : (takeS l n).length ≤ n := by unfold takeS; split <;> simp; omega
theorem takeS_le' (l : List UInt8) (n : Nat) : (takeS l n).length ≤ l.length := by unfold takeS; split <;> simp; omega
theorem takeL_le (l : List UInt8) (n : Nat) : (takeL l n).length ≤ l.length := by unfold takeL; split <;> simp
theorem num_takeS (l : List UInt8) (n : Nat) : num (takeS l n) < 256 ^ n :=
  Nat.lt_of_lt_of_le (num_lt _) (Nat.pow_le_pow_right (by omega) (takeS_le l n))
def textN (l : List UInt8) : Nat := num (takeS l 2)
def rtextS (l : List UInt8) : List UInt8 := takeS (takeL l 2) (textN l)
def rtextL (l : List UInt8) : List UInt8 := takeL (takeL l 2) (textN l)
def rtextB (l : List UInt8) (br : Bool) : Bool := takeB (takeL l 2) (takeB l br 2) (textN l)
def eightOk (l : List UInt8) (most : Int) : Bool := decide (0 ≤ most) && decide ((num (takeS l 8) : Int) ≤ most)
def eightV (l : List UInt8) (most : Int) : Nat := if eightOk l most then num (takeS l 8) else 0
def eightL (l : List UInt8) (most : Int) : List UInt8 := if eightOk l most then takeL l 8 else []
def eightB (l : List UInt8) (br : Bool) (most : Int) : Bool := if eightOk l most then takeB l br 8 else true
theorem rtextS_le (l : List UInt8) : (rtextS l).length ≤ 65535 := by
  have h1 := takeS_le (takeL l 2) (textN l)
  have h2 : textN l < 65536 := num_takeS l 2
  unfold rtextS
  omega
def openOk (l : List UInt8) : Bool := decide (fillE (rtextS l) = 0) && (fillS (rtextS l) == l)
def openS (l : List UInt8) : List UInt8 := if openOk l then rtextS l else []
def endE (l : List UInt8) (br : Bool) : Int := if br = false ∧ l = [] then 0 else 10

/-- A text is read as it was put, and what stands behind it is left. -/
theorem rtext_put (s rest : List UInt8) (h : s.length ≤ 65535) : rtextS (textS s ++ rest) = s ∧ rtextL (textS s ++ rest) = rest ∧ ∀ br, rtextB (textS s ++ rest) br = br := by
  have e0 : textS s = be 2 s.length ++ s := if_pos h
  have e1 : (textS s ++ rest).take 2 = be 2 s.length := by rw [e0, List.append_assoc, List.take_left' (be_length 2 _)]
  have e2 : (textS s ++ rest).drop 2 = s ++ rest := by rw [e0, List.append_assoc, List.drop_left' (be_length 2 _)]
  have e3 : 2 ≤ (textS s ++ rest).length := by rw [e0]; simp [be_length]
  have e4 : textN (textS s ++ rest) = s.length := by rw [textN, takeS, if_pos e3, e1, num_be]; omega
  have e5 : takeL (textS s ++ rest) 2 = s ++ rest := by rw [takeL, if_pos e3, e2]
  have e6 : s.length ≤ (s ++ rest).length := by simp
  refine ⟨?_, ?_, fun br => ?_⟩
  · rw [rtextS, e4, e5, takeS, if_pos e6, List.take_left' rfl]
  · rw [rtextL, e4, e5, takeL, if_pos e6, List.drop_left' rfl]
  · rw [rtextB, e4, e5, takeB, if_pos e6, takeB, if_pos e3]
theorem take_put (k n : Nat) (rest : List UInt8) (hn : n < 256 ^ k) : num (takeS (be k n ++ rest) k) = n ∧ takeL (be k n ++ rest) k = rest ∧ ∀ br, takeB (be k n ++ rest) br k = br := by
  have e : k ≤ (be k n ++ rest).length := by simp [be_length]
  refine ⟨?_, ?_, fun br => ?_⟩
  · rw [takeS, if_pos e, List.take_left' (be_length k n), num_be, Nat.mod_eq_of_lt hn]
  · rw [takeL, if_pos e, List.drop_left' (be_length k n)]
  · rw [takeB, if_pos e]
theorem eight_put (n : Nat) (rest : List UInt8) (most : Int) (hn : (n : Int) ≤ most) (h8 : n < 18446744073709551616) : eightV (be 8 n ++ rest) most = n ∧ eightL (be 8 n ++ rest) most = rest ∧ ∀ br, eightB (be 8 n ++ rest) br most = br := by
  obtain ⟨a, b, c⟩ := take_put 8 n rest h8
  have e : eightOk (be 8 n ++ rest) most = true := by
    rw [eightOk, a]
    simp
    omega
  refine ⟨?_, ?_, fun br => ?_⟩
  · rw [eightV, if_pos e, a]
  · rw [eightL, if_pos e, b]
  · rw [eightB, if_pos e, c]

/-- What the document's Open gives: the first two bytes say how long the text is. -/
def xopenN (l : List UInt8) : Nat := num (l.take 2)
def xopenOk (l : List UInt8) : Bool := decide (l.length = 512) && decide (xopenN l ≤ 510) && (fillS ((l.drop 2).take (xopenN l)) == l)
def xopenS (l : List UInt8) : List UInt8 := if xopenOk l then (l.drop 2).take (xopenN l) else []
theorem num_two (l : List UInt8) (h : 2 ≤ l.length) : num (l.take 2) = l[0].toNat * 256 + l[1].toNat := by
  match l, h with
  | a :: b :: t, _ => simp [num]
theorem fillS_length {l : List UInt8} (h : l.length ≤ 510) : (fillS l).length = 512 := by
  rw [fillS, if_pos h]; simp [be_length]; omega
theorem fillE_zero {l : List UInt8} : fillE l = 0 ↔ l.length ≤ 510 := by
  unfold fillE; split <;> simp_all
theorem fill_num {l : List UInt8} (h : l.length ≤ 510) : num ((fillS l).take 2) = l.length := by
  have e : (fillS l).take 2 = be 2 l.length := by
    rw [fillS, if_pos h, List.append_assoc, List.take_left' (be_length 2 _)]
  rw [e, num_be]
  omega
theorem fill_rest {l : List UInt8} (h : l.length ≤ 510) : ((fillS l).drop 2).take l.length = l := by
  have e : (fillS l).drop 2 = l ++ List.replicate (510 - l.length) 0 := by
    rw [fillS, if_pos h, List.append_assoc, List.drop_left' (be_length 2 _)]
  rw [e, List.take_left' rfl]
/-- What is opened is what the bytes are the sector of. -/
theorem rtextS_fill {t : List UInt8} (h : t.length ≤ 510) : rtextS (fillS t) = t := by
  have h2 := fillS_length h
  have e1 : textN (fillS t) = t.length := by
    rw [textN, takeS, if_pos (by omega), fill_num h]
  rw [rtextS, e1, takeL, if_pos (by omega), takeS, if_pos (by simp; omega), fill_rest h]
theorem xopen_fill {t : List UInt8} (h : t.length ≤ 510) : ((fillS t).drop 2).take (xopenN (fillS t)) = t := by
  rw [xopenN, fill_num h, fill_rest h]
theorem openOk_iff (l : List UInt8) : openOk l = true ↔ ∃ t, t.length ≤ 510 ∧ fillS t = l := by
  constructor
  · intro h
    simp only [openOk, Bool.and_eq_true, decide_eq_true_eq, beq_iff_eq] at h
    exact ⟨_, fillE_zero.1 h.1, h.2⟩
  · rintro ⟨t, ht, rfl⟩
    simp only [openOk, Bool.and_eq_true, decide_eq_true_eq, beq_iff_eq]
    rw [rtextS_fill ht]
    exact ⟨fillE_zero.2 ht, rfl⟩
theorem xopenOk_iff (l : List UInt8) : xopenOk l = true ↔ ∃ t, t.length ≤ 510 ∧ fillS t = l := by
  constructor
  · intro h
    simp only [xopenOk, Bool.and_eq_true, decide_eq_true_eq, beq_iff_eq] at h
    exact ⟨_, by simp; omega, h.2⟩
  · rintro ⟨t, ht, rfl⟩
    simp only [xopenOk, Bool.and_eq_true, decide_eq_true_eq, beq_iff_eq]
    rw [xopen_fill ht, xopenN, fill_num ht]
    exact ⟨⟨fillS_length ht, ht⟩, rfl⟩
theorem xopenOk_eq (l : List UInt8) : xopenOk l = openOk l := by
  rw [Bool.eq_iff_iff, xopenOk_iff, openOk_iff]
theorem xopenS_eq (l : List UInt8) : xopenS l = openS l := by
  rw [xopenS, openS, xopenOk_eq]
  by_cases h : openOk l = true
  · rw [if_pos h, if_pos h]
    obtain ⟨t, ht, rfl⟩ := (openOk_iff l).1 h
    rw [xopen_fill ht, rtextS_fill ht]
  · rw [if_neg h, if_neg h]
theorem open_fill {t : List UInt8} (h : t.length ≤ 510) : openOk (fillS t) = true ∧ openS (fillS t) = t := by
  have h1 : openOk (fillS t) = true := (openOk_iff _).2 ⟨t, h, rfl⟩
  exact ⟨h1, by rw [openS, if_pos h1, rtextS_fill h]⟩
theorem open_length {l : List UInt8} (h : openOk l = true) : l.length = 512 ∧ fillS (openS l) = l ∧ (openS l).length ≤ 510 := by
  obtain ⟨t, ht, rfl⟩ := (openOk_iff l).1 h
  rw [(open_fill ht).2]
  exact ⟨fillS_length ht, rfl, ht⟩

/-- A reader lies in block b: its rest, and whether it is broken. -/
structure Rd (w : World) (b : Nat) (l : List UInt8) (br : Bool) : Prop where
  rest : w.cell? ⟨b, 0, none⟩ = some (.string (str l))
  bad : w.cell? ⟨b, 1, none⟩ = some (.bool br)
  free0 : w.frozen? ⟨b, 0, none⟩ = false
  free1 : w.frozen? ⟨b, 1, none⟩ = false
theorem Rd.lt {w : World} {b : Nat} {l : List UInt8} {br : Bool} (h : Rd w b l br) : b < w.heap.size := lt_of_cell h.rest
theorem Rd.later {S : Nat → Prop} {w w' : World} {b : Nat} {l : List UInt8} {br : Bool} (h : Rd w b l br) (m : Mod S w w') (hs : ¬ S b) : Rd w' b l br :=
  ⟨(m.cell (p := ⟨b, 0, none⟩) h.lt hs).trans h.rest, (m.cell (p := ⟨b, 1, none⟩) h.lt hs).trans h.bad, (m.frozen (p := ⟨b, 0, none⟩) h.lt hs).trans h.free0, (m.frozen (p := ⟨b, 1, none⟩) h.lt hs).trans h.free1⟩
theorem Rd.below {w w' : World} {b : Nat} {l : List UInt8} {br : Bool} (h : Rd w b l br) (m : Below w.heap.size w w') : Rd w' b l br :=
  h.later (Mod.of_below (S := fun _ => False) m) id
theorem Rd.made (w : World) (l : List UInt8) (br : Bool) (t : TypeId) : Rd (w.alloc (.cells #[.string (str l), .bool br] t)) w.heap.size l br := by
  refine ⟨?_, ?_, ?_, ?_⟩ <;> simp [go_sem]
theorem set_same {w : World} {a : Addr} {u v : Value} (h : w.cell? a = some u) : (w.setCell a v).cell? a = some v := World.cell?_setCell_same _ _ _ h
theorem set_other {w : World} {a b : Addr} {v u : Value} (hab : a ≠ b) (h : w.cell? b = some u) : (w.setCell a v).cell? b = some u := (World.cell?_setCell_other _ _ _ _ hab).trans h
theorem set_frozen {w : World} {a b : Addr} {v : Value} {f : Bool} (h : w.frozen? b = f) : (w.setCell a v).frozen? b = f := (World.frozen?_setCell _ _ _ _).trans h
theorem Rd.set0 {w : World} {b : Nat} {l : List UInt8} {br : Bool} (h : Rd w b l br) (l' : List UInt8) : Rd (w.setCell ⟨b, 0, none⟩ (.string (str l'))) b l' br :=
  ⟨set_same h.rest, set_other (by simp) h.bad, set_frozen h.free0, set_frozen h.free1⟩
theorem Rd.set1 {w : World} {b : Nat} {l : List UInt8} {br : Bool} (h : Rd w b l br) (br' : Bool) : Rd (w.setCell ⟨b, 1, none⟩ (.bool br')) b l br' :=
  ⟨set_other (by simp) h.rest, set_same h.bad, set_frozen h.free0, set_frozen h.free1⟩
end Go.Proofs.YtiomhdanmcnaeaaGreatDoor
