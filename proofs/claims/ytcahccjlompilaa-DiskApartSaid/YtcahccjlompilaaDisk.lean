/- The shared disk in memory: what it holds, which blocks are whose, and what its plain calls give. -/
import Derived.Test.YtcahccjlompilaaMapI
namespace Go.Proofs.Ytcahccjlompilaa
open Go.RowKit Go.MapKept

theorem beq_no {a b : Int} (h : a ≠ b) : (a == b) = false := by simpa using h
theorem beq_yes {a b : Int} (h : a = b) : (a == b) = true := by simpa using h
theorem bne_no {a b : Int} (h : a = b) : (a != b) = false := by simpa using h
theorem bne_yes {a b : Int} (h : a ≠ b) : (a != b) = true := by simpa using h
/-- What a disk holds. -/
structure DS where
  lies : List (List UInt8)
  keys : Int → Int
  caches : Int → List (Nat × List UInt8)
  pend : List Int
/-- Whose a block is. -/
inductive Role where
  | no
  | head
  | lies
  | keys
  | caches
  | pend
  | cache (k : Int)
theorem Role.cache_inj {a b : Int} (h : Role.cache a = Role.cache b) : a = b := by injection h
def cw : List (Nat × List UInt8) → List Value
  | [] => []
  | p :: l => .int .i64 (p.1 : Int) :: .string (str p.2) :: cw l
theorem cw_length : ∀ l, (cw l).length = l.length * 2
  | [] => rfl
  | p :: l => by simp [cw, cw_length l]; omega
theorem cw_append : ∀ l m, cw (l ++ m) = cw l ++ cw m
  | [], _ => rfl
  | p :: l, m => by simp [cw, cw_append l m]
theorem cw_get : ∀ (l : List (Nat × List UInt8)) (i : Nat) (p : Nat × List UInt8), l[i]? = some p → (cw l)[2 * i]? = some (.int .i64 (p.1 : Int)) ∧ (cw l)[2 * i + 1]? = some (.string (str p.2))
  | [], _, _, h => by simp at h
  | q :: l, 0, p, h => by
    simp at h
    subst h
    exact ⟨rfl, rfl⟩
  | q :: l, i + 1, p, h => by
    have := cw_get l i p (by simpa using h)
    rw [show 2 * (i + 1) = 2 * i + 1 + 1 by omega]
    exact this
def ci (l : List Int) : List Value := l.map (Value.int .i64)
/-- What is known of a disk that may be. -/
structure Fine (s : DS) (n : Nat) : Prop where
  some : 0 < s.lies.length
  many : s.lies.length ≤ 65536
  whole : ∀ l ∈ s.lies, l.length = 512
  cache : ∀ k, (s.caches k).length ≤ n
  cached : ∀ k, ∀ p ∈ s.caches k, p.1 < s.lies.length ∧ p.2.length = 512
  pend : s.pend.length ≤ n
  small : n ≤ 1000000
  three : ∀ k, s.keys k = 0 ∨ s.keys k = 1 ∨ s.keys k = 2
  pends : ∀ k ∈ s.pend, (Lit.int .i64 k).wf = true
/-- A disk lies in memory. -/
structure Dk (w : World) (b : Nat) (ρ : Nat → Role) (n : Nat) (s : DS) (lb kb cb : Nat) (pv : Value) (cf : Int → Option Value) : Prop where
  c0 : w.cell? ⟨b, 0, none⟩ = some (.slice (some ⟨lb, 0, none⟩) s.lies.length s.lies.length)
  c1 : w.cell? ⟨b, 1, none⟩ = some (.map (some kb))
  c2 : w.cell? ⟨b, 2, none⟩ = some (.map (some cb))
  c3 : w.cell? ⟨b, 3, none⟩ = some pv
  f3 : w.frozen? ⟨b, 3, none⟩ = false
  rb : ρ b = .head
  rl : ρ lb = .lies
  rk : ρ kb = .keys
  rc : ρ cb = .caches
  lie : ∀ i (hi : i < s.lies.length), w.cell? ⟨lb, i, none⟩ = some (.string (str s.lies[i]))
  free : ∀ i, i < s.lies.length → w.frozen? ⟨lb, i, none⟩ = false
  keys : IsMap w kb n (fun k => if s.keys k = 0 then none else some (.int .i64 (s.keys k)))
  cach : IsMap w cb n cf
  no : ∀ k, cf k = none → s.caches k = []
  row : ∀ k v, cf k = some v → Row w 2 v (s.caches k).length (cw (s.caches k)) ∧ (∀ g, blk v = some g → ρ g = .cache k) ∧ 0 < (s.caches k).length
  pen : Row w 1 pv s.pend.length (ci s.pend)
  penr : ∀ g, blk pv = some g → ρ g = .pend
  top : ∀ g, ρ g ≠ .no → g < w.heap.size
  fine : Fine s n
def IsD (w : World) (b : Nat) (ρ : Nat → Role) (n : Nat) (s : DS) : Prop := ∃ lb kb cb pv cf, Dk w b ρ n s lb kb cb pv cf
theorem IsMap.lt' {w : World} {b n : Nat} {f : Int → Option Value} (h : IsMap w b n f) : b < w.heap.size := h.lt
section
variable {w w' : World} {b n : Nat} {ρ : Nat → Role} {s : DS} {lb kb cb : Nat} {pv : Value} {cf : Int → Option Value}
/-- A disk stays what it is while nothing of its own is turned. -/
theorem Dk.later (h : Dk w b ρ n s lb kb cb pv cf) {S : Nat → Prop} (m : Mod S w w') (hs : ∀ g, S g → ρ g = .no) : Dk w' b ρ n s lb kb cb pv cf := by
  have no : ∀ g, ρ g ≠ .no → ¬ S g := fun g hg hS => hg (hs g hS)
  have nb : ¬ S b := no b (by rw [h.rb]; intro e; cases e)
  have nl : ¬ S lb := no lb (by rw [h.rl]; intro e; cases e)
  have nk : ¬ S kb := no kb (by rw [h.rk]; intro e; cases e)
  have nc : ¬ S cb := no cb (by rw [h.rc]; intro e; cases e)
  have hb := lt_of_cell h.c0
  have hl : lb < w.heap.size := h.top lb (by rw [h.rl]; intro e; cases e)
  refine ⟨(m.cell (p := ⟨b, 0, none⟩) hb nb).trans h.c0, (m.cell (p := ⟨b, 1, none⟩) hb nb).trans h.c1, (m.cell (p := ⟨b, 2, none⟩) hb nb).trans h.c2, (m.cell (p := ⟨b, 3, none⟩) hb nb).trans h.c3, (m.frozen (p := ⟨b, 3, none⟩) hb nb).trans h.f3,
    h.rb, h.rl, h.rk, h.rc, fun i hi => (m.cell (p := ⟨lb, i, none⟩) hl nl).trans (h.lie i hi), fun i hi => (m.frozen (p := ⟨lb, i, none⟩) hl nl).trans (h.free i hi), h.keys.later m nk, h.cach.later m nc, h.no, fun k v hv => ?_, ?_, h.penr, fun g hg => Nat.lt_of_lt_of_le (h.top g hg) m.size, h.fine⟩
  · obtain ⟨h1, h2, h3⟩ := h.row k v hv
    exact ⟨h1.later m (fun g hg => no g (by rw [h2 g hg]; intro e; cases e)), h2, h3⟩
  · exact h.pen.later m (fun g hg => no g (by rw [h.penr g hg]; intro e; cases e))
theorem Fine.mono (h : Fine s n) {n' : Nat} (hn : n ≤ n') (hs : n' ≤ 1000000) : Fine s n' :=
  ⟨h.some, h.many, h.whole, fun k => Nat.le_trans (h.cache k) hn, h.cached, Nat.le_trans h.pend hn, hs, h.three, h.pends⟩
theorem Dk.mono (h : Dk w b ρ n s lb kb cb pv cf) {n' : Nat} (hn : n ≤ n') (hs : n' ≤ 1000000) : Dk w b ρ n' s lb kb cb pv cf :=
  { h with keys := h.keys.mono hn, cach := h.cach.mono hn, fine := h.fine.mono hn hs }
theorem IsD.later (h : IsD w b ρ n s) {S : Nat → Prop} (m : Mod S w w') (hs : ∀ g, S g → ρ g = .no) : IsD w' b ρ n s := by
  obtain ⟨lb, kb, cb, pv, cf, h⟩ := h
  exact ⟨lb, kb, cb, pv, cf, h.later m hs⟩
theorem IsD.below (h : IsD w b ρ n s) (m : Below w.heap.size w w') : IsD w' b ρ n s := h.later (Mod.of_below (S := fun _ => False) m) (fun _ => False.elim)
theorem IsD.mono (h : IsD w b ρ n s) {n' : Nat} (hn : n ≤ n') (hs : n' ≤ 1000000) : IsD w b ρ n' s := by
  obtain ⟨lb, kb, cb, pv, cf, h⟩ := h
  exact ⟨lb, kb, cb, pv, cf, h.mono hn hs⟩
theorem IsD.fine (h : IsD w b ρ n s) : Fine s n := by
  obtain ⟨lb, kb, cb, pv, cf, h⟩ := h
  exact h.fine
theorem IsD.lt (h : IsD w b ρ n s) : b < w.heap.size := by
  obtain ⟨lb, kb, cb, pv, cf, h⟩ := h
  exact lt_of_cell h.c0
theorem IsD.top (h : IsD w b ρ n s) : ∀ g, ρ g ≠ .no → g < w.heap.size := by
  obtain ⟨lb, kb, cb, pv, cf, h⟩ := h
  exact h.top
theorem IsD.above (h : IsD w b ρ n s) {g : Nat} (hg : w.heap.size ≤ g) : ρ g = .no := by
  have := h.top g
  cases hr : ρ g with
  | no => rfl
  | _ => exact absurd (this (by rw [hr]; intro e; cases e)) (by omega)
end
/-- What a call of a disk's does to memory: it turns the disk's own blocks alone, and takes new ones in. -/
structure Step (w : World) (ρ : Nat → Role) (w' : World) (ρ' : Nat → Role) : Prop where
  mod : Mod (fun g => ρ g ≠ .no) w w'
  new : ∀ g, g < w.heap.size → ρ' g ≠ .no → ρ g ≠ .no
theorem Step.refl (w : World) (ρ : Nat → Role) : Step w ρ w ρ := ⟨Mod.refl _ _, fun _ _ h => h⟩
theorem Step.trans {a b c : World} {ρ σ τ : Nat → Role} (h : Step a ρ b σ) (k : Step b σ c τ) : Step a ρ c τ :=
  ⟨⟨k.mod.os.trans h.mod.os, k.mod.tape.trans h.mod.tape, k.mod.output.trans h.mod.output, Nat.le_trans h.mod.size k.mod.size,
    fun i hi hn => (k.mod.block i (Nat.lt_of_lt_of_le hi h.mod.size) (fun hs => hn (h.new i hi hs))).trans (h.mod.block i hi hn)⟩,
    fun g hg ht => h.new g hg (k.new g (Nat.lt_of_lt_of_le hg h.mod.size) ht)⟩
theorem Step.below {B : Nat} {W w w' : World} {ρ ρ' : Nat → Role} (h : Step w ρ w' ρ') (hb : Below B W w) (hB : B ≤ w.heap.size) (hρ : ∀ g, ρ g ≠ .no → B ≤ g) : Below B W w' ∧ ∀ g, ρ' g ≠ .no → B ≤ g :=
  ⟨h.mod.below hb hB hρ, fun g hg => by
    rcases Nat.lt_or_ge g w.heap.size with hlt | hge
    · exact hρ g (h.new g hlt hg)
    · omega⟩
/-- What a call that turns the disk leaves. -/
def Did (w : World) (b : Nat) (ρ : Nat → Role) (n : Nat) (s : DS) (v : Value) (e : Ending) (w' : World) : Prop := e = .returned v ∧ ∃ ρ', IsD w' b ρ' n s ∧ Step w ρ w' ρ'

/-! ### plain calls -/
theorem zeroK (w : World) : (zeroValue 72).run Try.prog w = .ok (.int .i64 0) w := by kernel_rfl
theorem zeroW (w : World) : (zeroValue 74).run Try.prog w = .ok (.slice none 0 0) w := by kernel_rfl
theorem keyed (s : DS) (k : Int) : ((if s.keys k = 0 then none else some (Value.int .i64 (s.keys k)))).getD (Value.int .i64 0) = .int .i64 (s.keys k) := by
  split
  · rename_i h; rw [h]; rfl
  · rfl
section
variable {w : World} {b n : Nat} {ρ : Nat → Role} {s : DS} {lb kb cb : Nat} {pv : Value} {cf : Int → Option Value}
theorem Dk.look (h : Dk w b ρ n s lb kb cb pv cf) {k : Int} (hk : (Lit.int .i64 k).wf = true) : (Instr.lookup 64 (.map (some kb)) (.int .i64 k) false).run Try.prog w = .ok (.int .i64 (s.keys k)) w := by
  rw [h.keys.look Try.underlying64 (zeroK w) hk, keyed]
theorem Dk.lookC (h : Dk w b ρ n s lb kb cb pv cf) {k : Int} (hk : (Lit.int .i64 k).wf = true) : ∃ a cap, (Instr.lookup 65 (.map (some cb)) (.int .i64 k) false).run Try.prog w = .ok (.slice a (s.caches k).length cap) w ∧ Row w 2 (.slice a (s.caches k).length cap) (s.caches k).length (cw (s.caches k)) ∧ (cf k = none ∧ a = none ∨ cf k = some (.slice a (s.caches k).length cap)) := by
  have hl := h.cach.look Try.underlying65 (zeroW w) hk
  cases hc : cf k with
  | none =>
    rw [hc] at hl
    have := h.no k hc
    rw [this]
    exact ⟨none, 0, hl, row_nil w 2, .inl ⟨rfl, rfl⟩⟩
  | some v =>
    rw [hc] at hl
    obtain ⟨hr, _, h0⟩ := h.row k v hc
    rcases hr.is with ⟨rfl, he⟩ | ⟨g, off, cap, rfl, _⟩
    · omega
    · exact ⟨_, _, hl, hr, .inr rfl⟩
theorem Dk.lookV (h : Dk w b ρ n s lb kb cb pv cf) {k : Int} (hk : (Lit.int .i64 k).wf = true) : (Instr.lookup 65 (.map (some cb)) (.int .i64 k) false).run Try.prog w = .ok ((cf k).getD (.slice none 0 0)) w :=
  h.cach.look Try.underlying65 (zeroW w) hk
theorem Sectors_any (h : Dk w b ρ n s lb kb cb pv cf) :
    Calls Try.prog 13 #[.pointer (some ⟨b, 0, none⟩)] w fun e w' => e = .returned (.int .i64 (s.lies.length : Int)) ∧ w = w' := by
  have c0 := h.c0
  go_enter Try.func13, Try.ntmps13
  go_wp2
  go_ret
  exact ⟨rfl, rfl⟩
/-- Is there such a sector? -/
def thereB (s : DS) (i : Int) : Bool := decide (0 ≤ i) && decide (i < (s.lies.length : Int))
theorem there_any (h : Dk w b ρ n s lb kb cb pv cf) (i : Int) :
    Calls Try.prog 45 #[.pointer (some ⟨b, 0, none⟩), .int .i64 i] w fun e w' => e = .returned (.bool (thereB s i)) ∧ w = w' := by
  by_cases h0 : 0 ≤ i
  · have hd : decide (0 ≤ i) = true := by simpa using h0
    go_enter Try.func45, Try.ntmps45
    go_wp2_with fail
    refine (Sectors_any h).mono ?_
    rintro e w1 ⟨rfl, rfl⟩
    go_wp2
    go_ret
    exact ⟨ret_bool (by simp [thereB, h0]), rfl⟩
  · go_enter Try.func45, Try.ntmps45
    go_wp2
    go_ret
    exact ⟨ret_bool (by simp [thereB]; omega), rfl⟩
theorem whole_any (l : List UInt8) (w : World) :
    Calls Try.prog 46 #[.string (str l)] w fun e w' => e = .returned (.bool (decide (l.length = 512))) ∧ w = w' := by
  go_enter Try.func46, Try.ntmps46
  go_wp2
  go_ret
  exact ⟨ret_bool (by rw [Bool.eq_iff_iff]; simp; omega), rfl⟩
theorem Registered_any (h : Dk w b ρ n s lb kb cb pv cf) {k : Int} (hk : (Lit.int .i64 k).wf = true) :
    Calls Try.prog 40 #[.pointer (some ⟨b, 0, none⟩), .int .i64 k] w fun e w' => e = .returned (.bool (s.keys k == 1)) ∧ w = w' := by
  have c1 := h.c1
  have hl := h.look hk
  go_enter Try.func40, Try.ntmps40
  go_wp2
  go_ret
  exact ⟨rfl, rfl⟩
theorem Cached_any (h : Dk w b ρ n s lb kb cb pv cf) {k : Int} (hk : (Lit.int .i64 k).wf = true) :
    Calls Try.prog 38 #[.pointer (some ⟨b, 0, none⟩), .int .i64 k] w fun e w' => e = .returned (.int .i64 ((s.caches k).length : Int)) ∧ w = w' := by
  have c2 := h.c2
  obtain ⟨a, cap, hl, _⟩ := h.lookC hk
  go_enter Try.func38, Try.ntmps38
  go_wp2
  go_ret
  exact ⟨rfl, rfl⟩
/-- What lies in a sector. -/
def lieI (s : DS) (i : Int) : List UInt8 := if thereB s i = true then s.lies.getD i.toNat [] else []
theorem Peek_in (h : Dk w b ρ n s lb kb cb pv cf) (i : Nat) (hi : i < s.lies.length) :
    Calls Try.prog 22 #[.pointer (some ⟨b, 0, none⟩), .int .i64 (i : Int)] w fun e w' => e = .returned (.string (str s.lies[i])) ∧ w = w' := by
  have c0 := h.c0
  have c := h.lie i hi
  have ht : thereB s i = true := by simp [thereB]; omega
  have hm := h.fine.many
  go_enter Try.func22, Try.ntmps22
  go_wp2_with fail
  refine (there_any h _).mono ?_
  rw [ht]
  rintro e w1 ⟨rfl, rfl⟩
  go_wp2
  go_ret
  exact ⟨rfl, rfl⟩
theorem Peek_any (h : Dk w b ρ n s lb kb cb pv cf) (i : Int) :
    Calls Try.prog 22 #[.pointer (some ⟨b, 0, none⟩), .int .i64 i] w fun e w' => e = .returned (.string (str (lieI s i))) ∧ w = w' := by
  cases ht : thereB s i with
  | true =>
    simp [thereB] at ht
    obtain ⟨k, rfl⟩ := Int.eq_ofNat_of_zero_le ht.1
    have hk : k < s.lies.length := by omega
    have e : lieI s k = s.lies[k] := by
      have : thereB s k = true := by simp [thereB]; omega
      rw [lieI, if_pos this, Int.toNat_natCast, List.getD_eq_getElem?_getD, List.getElem?_eq_getElem hk]; rfl
    rw [e]
    exact Peek_in h k hk
  | false =>
    have e : lieI s i = [] := by rw [lieI, ht]; rfl
    rw [e]
    go_enter Try.func22, Try.ntmps22
    go_wp2_with fail
    refine (there_any h _).mono ?_
    rw [ht]
    rintro e w1 ⟨rfl, rfl⟩
    go_wp2
    go_ret
    exact ⟨rfl, rfl⟩
end
end Go.Proofs.Ytcahccjlompilaa
