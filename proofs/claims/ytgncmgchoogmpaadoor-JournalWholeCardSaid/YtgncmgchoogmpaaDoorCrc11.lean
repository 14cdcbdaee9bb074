/- What each function of package crc gives, at this translation: the state behind a text, sums of parts, sums of rows. -/
import Derived.Test.YtgncmgchoogmpaaDoorChecked
import Derived.Test.YtgncmgchoogmpaaDoorClose
import Derived.Test.YtgncmgchoogmpaaDoorRefRd01
import Derived.Test.YtgncmgchoogmpaaDoorCrcSum
import Derived.Lib.LaidTab
namespace Go.Proofs.YtgncmgchoogmpaaDoor
open Go.RowKit

/-- A number of 32 bits as the machine holds it. -/
def uv (c : BitVec 32) : Int := (c.toNat : Int)
theorem uv_lo (c : BitVec 32) : 0 ≤ uv c := Int.natCast_nonneg _
theorem uv_hi (c : BitVec 32) : uv c ≤ 4294967295 := by have := c.isLt; unfold uv; omega
theorem uv_inj {a b : BitVec 32} : uv a = uv b ↔ a = b := by
  unfold uv
  rw [Int.ofNat_inj, BitVec.toNat_inj]
theorem uv_of (n : Int) (h0 : 0 ≤ n) (h1 : n ≤ 4294967295) : ∃ c, n = uv c := ⟨BitVec.ofInt 32 n, by unfold uv; simp; omega⟩
theorem uv_wf (n : Int) (h : (Lit.int .u32 n).wf = true) : ∃ c, n = uv c := by
  simp [Lit.wf] at h
  have h1 : IntKind.u32.min = 0 := by decide
  have h2 : IntKind.u32.max = 4294967295 := by decide
  rw [h1, h2] at h
  exact uv_of n h.1 h.2
theorem uv_not (c : BitVec 32) : IntKind.u32.wrap (-(uv c) - 1) = uv (~~~c) := by
  rw [IntKind.wrap_u32]
  unfold uv
  rw [BitVec.toNat_not]
  have := c.isLt
  omega
theorem ofInt_uv (c : BitVec 32) : BitVec.ofInt 32 (uv c) = c := by
  apply BitVec.eq_of_toNat_eq
  have := c.isLt
  unfold uv
  simp
theorem wrap_uv (c : BitVec 32) : IntKind.u32.wrap (uv c) = uv c := IntWalk.u32_in _ ⟨uv_lo c, uv_hi c⟩
theorem uv_xor (a b : BitVec 32) : bits .xor .u32 (uv a) (uv b) = uv (a ^^^ b) := by
  show IntKind.u32.wrap ((BitVec.ofInt 32 (uv a) ^^^ BitVec.ofInt 32 (uv b)).toNat : Int) = _
  rw [ofInt_uv, ofInt_uv]
  exact wrap_uv _
theorem uv_shl4 (a : BitVec 32) : uv a * (16 : Int) % (4294967296 : Int) = uv (a <<< (4 : Nat)) := by
  unfold uv
  rw [BitVec.toNat_shiftLeft, Nat.shiftLeft_eq]
  have := a.isLt
  omega
/-- The table lies as it is written. -/
def tabv (n : Nat) : BitVec 32 := Crc.tab.getD n 0#32
structure Tab (w : World) : Prop where
  cell : ∀ i, i < 16 → w.cell? ⟨0, i, none⟩ = some (.int .u32 (uv (tabv i)))
theorem Tab.below {w w' : World} (h : Tab w) (b : Below w.heap.size w w') : Tab w' :=
  ⟨fun i hi => ((Mod.of_below (S := fun _ => False) b).cell (lt_of_cell (h.cell i hi)) id).trans (h.cell i hi)⟩
theorem Tab.look {w : World} (h : Tab w) (c : BitVec 32) : w.cell? ⟨0, (uv c / 268435456).toNat, none⟩ = some (.int .u32 (uv (tabv (c.toNat / 268435456)))) := by
  have := c.isLt
  have e : (uv c / 268435456).toNat = c.toNat / 268435456 := by unfold uv; omega
  rw [e]
  exact h.cell _ (by omega)
theorem four_val (c : BitVec 32) : bits .xor .u32 (uv c * 16 % 4294967296) (uv (tabv (c.toNat / 268435456))) = uv (Crc.steps 4 c) := by
  rw [uv_shl4, uv_xor, tabv, Crc.four_eq]
theorem four_any (c : BitVec 32) (w : World) (hT : Tab w) :
    Calls Tryd.prog 74 #[.int .u32 (uv c)] w fun e w' => e = .returned (.int .u32 (uv (Crc.steps 4 c))) ∧ w = w' := by
  have hc := hT.look c
  have h0 := uv_lo c
  have h1 := uv_hi c
  go_enter Tryd.func74, Tryd.ntmps74
  go_wp2
  go_ret
  exact ⟨ret_int (four_val c), rfl⟩
theorem uv_top (b : UInt8) : uv (Crc.top b) = ((b.toNat : Nat) : Int) * 16777216 := by
  unfold uv Crc.top
  rw [BitVec.toNat_shiftLeft, Nat.shiftLeft_eq, BitVec.toNat_setWidth]
  have : b.toBitVec.toNat = b.toNat := rfl
  rw [this]
  have := b.toNat_lt
  omega
theorem top_val (c : BitVec 32) (b : UInt8) : bits .xor .u32 (uv c) (((b.toNat : Nat) : Int) % (4294967296 : Int) * (16777216 : Int) % (4294967296 : Int)) = uv (c ^^^ Crc.top b) := by
  have hb := b.toNat_lt
  have e : ((b.toNat : Nat) : Int) % (4294967296 : Int) * (16777216 : Int) % (4294967296 : Int) = uv (Crc.top b) := by rw [uv_top]; omega
  rw [e, uv_xor]
theorem behind_any (c : BitVec 32) (l : List UInt8) (hl : l.length ≤ maxLen) (w : World) (hT : Tab w) :
    Calls Tryd.prog 65 #[.int .u32 (uv c), .string (str l)] w fun e w' => e = .returned (.int .u32 (uv (Crc.sum c l))) ∧ w = w' := by
  unfold maxLen at hl
  go_enter Tryd.func65, Tryd.ntmps65
  go_wp2
  go_loop [0, 8] (fun a i => ∃ k : Nat, k ≤ l.length ∧ i = .int .i64 k ∧ a = .int .u32 (uv (Crc.sum c (l.take k)))) (fun _ i => l.length - (intOf i).toNat)
  case atStart => exact ⟨0, Nat.zero_le _, rfl, rfl⟩
  case round =>
    obtain ⟨k, hk, rfl, rfl⟩ := hrel
    by_cases hlt : k < l.length
    · go_wp2_with fail
      rw [top_val]
      refine (four_any _ _ hT).mono ?_
      rintro e w1 ⟨rfl, rfl⟩
      go_wp2_with fail
      refine (four_any _ _ hT).mono ?_
      rintro e w1 ⟨rfl, rfl⟩
      go_wp2
      go_round
      case rel =>
        refine ⟨k + 1, by omega, by go_num, ?_⟩
        rw [take_snoc l k hlt, Crc.sum_append, ← Crc.steps_add]
        rfl
      case measure => simp [intOf]; omega
    · go_wp2
      go_ret
      exact ⟨ret_int (by rw [List.take_of_length_le (by omega)]), rfl⟩
theorem not_val (c : BitVec 32) : bits .xor .u32 IntKind.u32.max (uv c) = uv (~~~c) := by
  have e : IntKind.u32.max = uv (BitVec.allOnes 32) := by decide
  rw [e, uv_xor, BitVec.allOnes_xor]
theorem Add_any (c : BitVec 32) (l : List UInt8) (hl : l.length ≤ maxLen) (w : World) (hT : Tab w) :
    Calls Tryd.prog 59 #[.int .u32 (uv c), .string (str l)] w fun e w' => e = .returned (.int .u32 (uv (Crc.add c l))) ∧ w = w' := by
  have hs : IntKind.u32.signed = false := rfl
  go_enter Tryd.func59, Tryd.ntmps59
  go_wp2_with fail
  rw [not_val]
  refine (behind_any _ _ hl _ hT).mono ?_
  rintro e w1 ⟨rfl, rfl⟩
  go_wp2
  go_ret
  exact ⟨ret_int (not_val _), rfl⟩
/-- The sum of parts. -/
def sums (c : BitVec 32) (ss : List (List UInt8)) : BitVec 32 := ss.foldl Crc.add c
theorem sums_snoc (c : BitVec 32) (ss : List (List UInt8)) (l : List UInt8) : sums c (ss ++ [l]) = Crc.add (sums c ss) l := by simp [sums]
theorem sums_join : ∀ (ss : List (List UInt8)) (c : BitVec 32), sums c ss = Crc.add c ss.flatten
  | [], c => (Crc.add_nil c).symm
  | l :: ss, c => by
    rw [List.flatten_cons, Crc.add_append, ← sums_join ss]
    rfl
theorem takeS_snoc (l : List (List UInt8)) (k : Nat) (h : k < l.length) : l.take (k + 1) = l.take k ++ [l.getD k []] := by
  rw [List.take_succ_eq_append_getElem h]
  simp [List.getD, h]
theorem Of_any (a : Option Addr) (len cap : Nat) (ss : List (List UInt8)) (w : World) (h : IsStrs w a len ss) (hT : Tab w) :
    Calls Tryd.prog 57 #[.slice a len cap] w fun e w' => e = .returned (.int .u32 (uv (sums 0#32 ss))) ∧ w = w' := by
  have hm := h.max
  have hl := h.length
  unfold maxLen at hm
  go_enter Tryd.func57, Tryd.ntmps57
  go_wp2
  go_loop [3, 8] (fun a i => ∃ k : Nat, k ≤ len ∧ i = .int .i64 k ∧ a = .int .u32 (uv (sums 0#32 (ss.take k)))) (fun _ i => len - (intOf i).toNat)
  case atStart => exact ⟨0, Nat.zero_le _, rfl, rfl⟩
  case round =>
    obtain ⟨k, hk, rfl, rfl⟩ := hrel
    by_cases hlt : k < len
    · obtain ⟨b, off, rfl, hc⟩ := h.cells (by omega)
      have hck := hc k hlt
      have hlk : (ss.getD k []).length ≤ maxLen := h.wf _ (by
        rw [List.getD_eq_getElem?_getD, List.getElem?_eq_getElem (by omega)]
        exact List.getElem_mem _)
      have hsn := takeS_snoc ss k (by omega)
      obtain ⟨x, Hx⟩ : ∃ x, Hid (ss.getD k [] = x) := ⟨_, Lib.hid rfl⟩
      rw [Hx.out] at hck hlk hsn
      clear hc
      go_wp2_with fail
      refine (Add_any _ _ hlk _ hT).mono ?_
      rintro e w1 ⟨rfl, rfl⟩
      go_wp2
      go_round
      case rel =>
        refine ⟨k + 1, by omega, by go_num, ?_⟩
        rw [hsn, sums_snoc]
      case measure => simp [intOf]; omega
    · go_wp2
      go_ret
      exact ⟨ret_int (by rw [List.take_of_length_le (by omega)]), rfl⟩
theorem count_any (l : List UInt8) (hl : l.length ≤ maxLen) (w : World) :
    Calls Tryd.prog 60 #[.string (str l)] w fun e w' => e = .returned (.string (str (be 8 l.length))) ∧ Below w.heap.size w w' := by
  unfold maxLen at hl
  have hmk := mk8
  have hcv := cv8
  obtain ⟨n, Hn⟩ : ∃ n, Hid (l.length = n) := ⟨_, Lib.hid rfl⟩
  rw [Hn.out] at hl
  have hn := Hn.out
  go_enter Tryd.func60, Tryd.ntmps60
  go_wp2
  go_rounds 9
  go_wp2
  go_ret
  rw [hn]
  refine ⟨ret_str ?_, (Below.refl _ _).alloc (Nat.le_refl _) _⟩
  simp [be, u8m, Nat.div_div_eq_div_mul]
theorem RowIn_any (b : Nat) (c : BitVec 32) (l : List UInt8) (hl : l.length ≤ maxLen) (w : World) (hT : Tab w) (h : w.cell? ⟨b, 0, none⟩ = some (.int .u32 (uv c))) (hf : w.frozen? ⟨b, 0, none⟩ = false) :
    Calls Tryd.prog 58 #[.string (str l), .pointer (some ⟨b, 0, none⟩)] w fun e w' => e = .returned (.tuple #[]) ∧ w' = w.setCell ⟨b, 0, none⟩ (.int .u32 (uv (Crc.add c l))) := by
  go_enter Tryd.func58, Tryd.ntmps58
  go_wp2_with fail
  refine (Add_any _ _ hl _ hT).mono ?_
  rintro e w1 ⟨rfl, rfl⟩
  go_wp2
  go_end0
  exact ⟨rfl, rfl⟩
/-- The sum of a row of texts. -/
def rows (c : BitVec 32) (ss : List (List UInt8)) : BitVec 32 := ss.foldl (fun c l => Crc.add (Crc.add c (be 8 l.length)) l) c
theorem rows_snoc (c : BitVec 32) (ss : List (List UInt8)) (l : List UInt8) : rows c (ss ++ [l]) = Crc.add (Crc.add (rows c ss) (be 8 l.length)) l := by simp [rows]
def rowed (ss : List (List UInt8)) : List UInt8 := ss.flatMap fun l => be 8 l.length ++ l
theorem rows_join : ∀ (ss : List (List UInt8)) (c : BitVec 32), rows c ss = Crc.add c (rowed ss)
  | [], c => (Crc.add_nil c).symm
  | l :: ss, c => by
    rw [rowed, List.flatMap_cons, Crc.add_append, Crc.add_append, ← rowed, ← rows_join ss]
    rfl
/-- The closure's number: what it is behind so many texts. -/
structure CR (w : World) (b : Nat) (c : BitVec 32) (w' : World) : Prop where
  below : Below w.heap.size w w'
  cell : w'.cell? ⟨b, 0, none⟩ = some (.int .u32 (uv c))
  free : w'.frozen? ⟨b, 0, none⟩ = false
theorem CR.later {w a w' : World} {b : Nat} {c : BitVec 32} (h : CR w b c a) (k : Below a.heap.size a w') : CR w b c w' :=
  ⟨h.below.trans (k.mono h.below.size), (k.cell (p := ⟨b, 0, none⟩) (lt_of_cell h.cell)).trans h.cell, (k.frozen (p := ⟨b, 0, none⟩) (lt_of_cell h.cell)).trans h.free⟩
theorem CR.set {w a : World} {b : Nat} {c : BitVec 32} (h : CR w b c a) (hb : w.heap.size ≤ b) (d : BitVec 32) : CR w b d (a.setCell ⟨b, 0, none⟩ (.int .u32 (uv d))) :=
  ⟨h.below.setCell hb _, set_same h.cell, set_frozen h.free⟩
theorem IsStrs.below {w w' : World} {a : Option Addr} {len : Nat} {ss : List (List UInt8)} (h : IsStrs w a len ss) (k : Below w.heap.size w w') : IsStrs w' a len ss :=
  ⟨h.length, h.max, h.wf, fun h0 => by
    obtain ⟨b, off, rfl, hc⟩ := h.cells h0
    exact ⟨b, off, rfl, fun i hi => (k.cell (p := ⟨b, off + i, none⟩) (lt_of_cell (hc i hi))).trans (hc i hi)⟩⟩
theorem strs_none (w : World) : IsStrs w none 0 [] := ⟨rfl, Nat.zero_le _, by simp, by omega⟩
theorem Row_any (a : Option Addr) (len cap : Nat) (ss : List (List UInt8)) (w : World) (h : IsStrs w a len ss) (hT : Tab w) :
    Calls Tryd.prog 41 #[.slice a len cap] w fun e w' => e = .returned (.int .u32 (uv (rows 0#32 ss))) ∧ Below w.heap.size w w' := by
  have hm := h.max
  have hl := h.length
  unfold maxLen at hm
  go_enter Tryd.func41, Tryd.ntmps41
  go_wp2_with fail
  refine (Of_any _ _ _ _ _ (strs_none w) hT).mono ?_
  rintro e w1 ⟨rfl, rfl⟩
  have hcr0 : CR w w.heap.size 0#32 (w.alloc (.cells #[.int .u32 (uv 0#32)] 72)) := ⟨(Below.refl _ _).alloc (Nat.le_refl _) _, by simp [go_sem], by simp [go_sem]⟩
  have Hcr0 := Lib.hid hcr0
  clear hcr0
  have e0 : sums 0#32 [] = 0#32 := rfl
  rw [e0]
  go_wp2
  obtain ⟨b, Hb⟩ : ∃ b, Hid (w.heap.size = b) := ⟨_, Lib.hid rfl⟩
  have Hb2 : Hid (w.heap.size ≤ b) := Lib.hid (Nat.le_of_eq Hb.out)
  rw [Hb.out] at Hcr0 ⊢
  go_loopw [11] (fun i wr => ∃ k : Nat, k ≤ len ∧ i = .int .i64 k ∧ CR w b (rows 0#32 (ss.take k)) wr) (fun i _ => len - (intOf i).toNat)
  case atStart => exact ⟨0, Nat.zero_le _, rfl, Hcr0.out⟩
  case round =>
    obtain ⟨k, hk, rfl, hcr⟩ := hrel
    have Hcr := Lib.hid hcr
    clear hcr
    by_cases hlt : k < len
    · have h' := h.below Hcr.out.below
      obtain ⟨b', off, ea, hc⟩ := h'.cells (by omega)
      have hck := hc k hlt
      have hlk : (ss.getD k []).length ≤ maxLen := h.wf _ (by
        rw [List.getD_eq_getElem?_getD, List.getElem?_eq_getElem (by omega)]
        exact List.getElem_mem _)
      have hsn := takeS_snoc ss k (by omega)
      obtain ⟨x, Hx⟩ : ∃ x, Hid (ss.getD k [] = x) := ⟨_, Lib.hid rfl⟩
      rw [Hx.out] at hck hlk hsn
      have Hsn := Lib.hid hsn
      clear hc h' hsn
      subst ea
      have H := Lib.hid h
      clear h
      have h8 := be_length 8 x.length
      go_wp2_with fail
      refine (count_any _ hlk _).mono ?_
      rintro e w1 ⟨rfl, hb1⟩
      have Hc1 := Lib.hid (Hcr.out.later hb1)
      clear hb1
      go_wp2_with fail
      refine (RowIn_any _ _ _ (by rw [h8]; unfold maxLen; omega) _ (hT.below Hc1.out.below) Hc1.out.cell Hc1.out.free).mono ?_
      rintro e w2 ⟨rfl, e2⟩
      have Hc2 := Lib.hid (e2 ▸ Hc1.out.set Hb2.out _)
      clear e2
      go_wp2_with fail
      refine (RowIn_any _ _ _ hlk _ (hT.below Hc2.out.below) Hc2.out.cell Hc2.out.free).mono ?_
      rintro e w3 ⟨rfl, e3⟩
      have Hc3 := Lib.hid (e3 ▸ Hc2.out.set Hb2.out _)
      clear e3
      go_wp2
      go_roundw
      case rel =>
        refine ⟨k + 1, by omega, by go_num, ?_⟩
        rw [Hsn.out, rows_snoc]
        exact Hc3.out
      case measure => simp [intOf]; omega
    · have hc := Hcr.out.cell
      go_wp2
      go_ret
      exact ⟨ret_int (by rw [List.take_of_length_le (by omega)]), Hcr.out.below⟩
end Go.Proofs.YtgncmgchoogmpaaDoor
