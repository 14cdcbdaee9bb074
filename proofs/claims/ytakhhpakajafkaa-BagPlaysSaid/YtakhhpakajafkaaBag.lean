/- A network in memory: whose a block is, what waits on each link, and what its plain calls give. -/
import Derived.Test.YtakhhpakajafkaaDelRow
import Derived.TacticsInMore
namespace Go.Proofs.Ytakhhpakajafkaa
open Go.RowKit

theorem beq_no {a b : Int} (h : a ≠ b) : (a == b) = false := by simpa using h
theorem beq_yes {a b : Int} (h : a = b) : (a == b) = true := by simpa using h
theorem bne_no {a b : Int} (h : a = b) : (a != b) = false := by simpa using h
theorem bne_yes {a b : Int} (h : a ≠ b) : (a != b) = true := by simpa using h
/-- Whose a block is. -/
inductive Role where
  | no
  | head
  | bag (k : Nat)
theorem Role.bag_inj {a b : Nat} (h : Role.bag a = Role.bag b) : a = b := by injection h
/-- What waits, link by link: that from i to j at 8 i + j. -/
abbrev NS := Nat → List (List UInt8)
def NS.put (s : NS) (k : Nat) (l : List (List UInt8)) : NS := fun i => if i = k then l else s i
theorem NS.put_same (s : NS) (k : Nat) (l : List (List UInt8)) : s.put k l k = l := if_pos rfl
theorem NS.put_other (s : NS) {k i : Nat} (l : List (List UInt8)) (h : i ≠ k) : s.put k l i = s i := if_neg h
def NS.none : NS := fun _ => []
def vput (bv : Nat → Value) (k : Nat) (v : Value) : Nat → Value := fun i => if i = k then v else bv i
theorem vput_same (s : Nat → Value) (k : Nat) (l : Value) : vput s k l k = l := if_pos rfl
theorem vput_other (s : Nat → Value) {k i : Nat} (l : Value) (h : i ≠ k) : vput s k l i = s i := if_neg h
/-- A network lies in memory. -/
structure Nt (w : World) (b : Nat) (ρ : Nat → Role) (s : NS) (bv : Nat → Value) : Prop where
  cell : ∀ k, k < 64 → w.cell? ⟨b, k, none⟩ = some (bv k)
  free : ∀ k, k < 64 → w.frozen? ⟨b, k, none⟩ = false
  head : ρ b = .head
  row : ∀ k, k < 64 → Rw w (bv k) (s k)
  own : ∀ k g, k < 64 → blk (bv k) = some g → ρ g = .bag k
  top : ∀ g, ρ g ≠ .no → g < w.heap.size
  most : ∀ k, (s k).length ≤ 200
  diag : ∀ i, i < 8 → s (9 * i) = []
def IsN (w : World) (b : Nat) (ρ : Nat → Role) (s : NS) : Prop := ∃ bv, Nt w b ρ s bv
section
variable {w w' : World} {b : Nat} {ρ : Nat → Role} {s : NS} {bv : Nat → Value}
theorem Nt.lt (h : Nt w b ρ s bv) : b < w.heap.size := h.top b (by rw [h.head]; intro e; cases e)
theorem Nt.later (h : Nt w b ρ s bv) {S : Nat → Prop} (m : Mod S w w') (hs : ∀ g, S g → ρ g = .no) : Nt w' b ρ s bv := by
  have no : ∀ g, ρ g ≠ .no → ¬ S g := fun g hg hS => hg (hs g hS)
  have nb : ¬ S b := no b (by rw [h.head]; intro e; cases e)
  exact ⟨fun k hk => (m.cell (p := ⟨b, k, none⟩) h.lt nb).trans (h.cell k hk), fun k hk => (m.frozen (p := ⟨b, k, none⟩) h.lt nb).trans (h.free k hk), h.head,
    fun k hk => (h.row k hk).later m (fun g hg => no g (by rw [h.own k g hk hg]; intro e; cases e)), h.own, fun g hg => Nat.lt_of_lt_of_le (h.top g hg) m.size, h.most, h.diag⟩
theorem IsN.later (h : IsN w b ρ s) {S : Nat → Prop} (m : Mod S w w') (hs : ∀ g, S g → ρ g = .no) : IsN w' b ρ s := by
  obtain ⟨bv, h⟩ := h
  exact ⟨bv, h.later m hs⟩
theorem IsN.below (h : IsN w b ρ s) (m : Below w.heap.size w w') : IsN w' b ρ s := h.later (Mod.of_below (S := fun _ => False) m) (fun _ => False.elim)
theorem IsN.lt (h : IsN w b ρ s) : b < w.heap.size := by obtain ⟨bv, h⟩ := h; exact h.lt
theorem IsN.top (h : IsN w b ρ s) : ∀ g, ρ g ≠ .no → g < w.heap.size := by obtain ⟨bv, h⟩ := h; exact h.top
theorem IsN.most (h : IsN w b ρ s) : ∀ k, (s k).length ≤ 200 := by obtain ⟨bv, h⟩ := h; exact h.most
theorem IsN.diag (h : IsN w b ρ s) : ∀ i, i < 8 → s (9 * i) = [] := by obtain ⟨bv, h⟩ := h; exact h.diag
theorem IsN.above (h : IsN w b ρ s) {g : Nat} (hg : w.heap.size ≤ g) : ρ g = .no := by
  have := h.top g
  cases hr : ρ g with
  | no => rfl
  | _ => exact absurd (this (by rw [hr]; intro e; cases e)) (by omega)
end
/-- What a call of a network's does to memory: it turns the network's own blocks alone, and takes new ones in. -/
structure Step (w : World) (ρ : Nat → Role) (w' : World) (ρ' : Nat → Role) : Prop where
  mod : Mod (fun g => ρ g ≠ .no) w w'
  new : ∀ g, g < w.heap.size → ρ' g ≠ .no → ρ g ≠ .no
theorem Step.refl (w : World) (ρ : Nat → Role) : Step w ρ w ρ := ⟨Mod.refl _ _, fun _ _ h => h⟩
theorem Step.trans {a b c : World} {ρ σ τ : Nat → Role} (h : Step a ρ b σ) (k : Step b σ c τ) : Step a ρ c τ :=
  ⟨⟨k.mod.os.trans h.mod.os, k.mod.tape.trans h.mod.tape, k.mod.output.trans h.mod.output, Nat.le_trans h.mod.size k.mod.size,
    fun i hi hn => (k.mod.block i (Nat.lt_of_lt_of_le hi h.mod.size) (fun hs => hn (h.new i hi hs))).trans (h.mod.block i hi hn)⟩,
    fun g hg ht => h.new g hg (k.new g (Nat.lt_of_lt_of_le hg h.mod.size) ht)⟩
theorem Step.of_below {w w' : World} (ρ : Nat → Role) (h : Below w.heap.size w w') : Step w ρ w' ρ := ⟨Mod.of_below h, fun _ _ h => h⟩
/-- What a call that turns the network leaves. -/
def Did (w : World) (b : Nat) (ρ : Nat → Role) (s : NS) (v : Value) (e : Ending) (w' : World) : Prop := e = .returned v ∧ ∃ ρ', IsN w' b ρ' s ∧ Step w ρ w' ρ'
section
variable {w : World} {b : Nat} {ρ : Nat → Role} {s : NS} {bv : Nat → Value}
/-- One link's bag turned: its own block, or a new one. -/
theorem Nt.put (h : Nt w b ρ s bv) {k : Nat} (hk : k < 64) {w1 : World} {v' : Value} {l : List (List UInt8)} (m : Mod (fun g => blk (bv k) = some g) w w1) (hr : Rw w1 v' l) (hb' : ∀ g, blk v' = some g → blk (bv k) = some g ∨ w.heap.size ≤ g) (hl : l.length ≤ 200) (hd : ∀ i, i < 8 → k = 9 * i → l = []) :
    ∃ ρ', IsN (w1.setCell ⟨b, k, none⟩ v') b ρ' (s.put k l) ∧ Step w ρ (w1.setCell ⟨b, k, none⟩ v') ρ' := by
  have hb := h.lt
  have nbp : ¬ (blk (bv k) = some b) := fun e => by have := h.own k b hk e; rw [h.head] at this; cases this
  have m2 : Mod (fun g => g = b ∨ blk (bv k) = some g) w (w1.setCell ⟨b, k, none⟩ v') := (m.mono (T := fun g => g = b ∨ blk (bv k) = some g) (fun k _ hk => .inr hk)).setCell (.inl (.inl rfl)) _
  have hnb : ∀ g, blk v' = some g → g ≠ b := fun g hg e => by
    subst e
    rcases hb' g hg with h1 | h1
    · exact nbp h1
    · omega
  obtain ⟨ρ', hρ⟩ : ∃ ρ' : Nat → Role, (∀ g, (blk v' = some g ∧ ρ' g = .bag k) ∨ (blk v' ≠ some g ∧ ρ' g = ρ g)) := by
    refine ⟨fun g => match blk v' with | some g' => if g = g' then .bag k else ρ g | none => ρ g, fun g => ?_⟩
    cases hp : blk v' with
    | none => exact .inr ⟨by simp, rfl⟩
    | some g' =>
      by_cases e : g = g'
      · subst e; exact .inl ⟨rfl, by simp⟩
      · exact .inr ⟨by simpa using fun h => e h.symm, by simp [e]⟩
  have old : ∀ g, g < w.heap.size → ρ' g = ρ g := fun g hg => by
    rcases hρ g with ⟨h1, h2⟩ | ⟨_, h2⟩
    · rcases hb' g h1 with h3 | h3
      · rw [h2, h.own k g hk h3]
      · omega
    · exact h2
  refine ⟨ρ', ⟨vput bv k v', fun i hi => ?_, fun i hi => set_frozen ((m.frozen (p := ⟨b, i, none⟩) hb nbp).trans (h.free i hi)), by rw [old b hb]; exact h.head, fun i hi => ?_, fun i g hi hg => ?_, fun g hg => ?_, fun i => ?_, fun i hi => ?_⟩, ⟨m2.mono (fun g _ hS => ?_), fun g hg hr => by rw [← old g hg]; exact hr⟩⟩
  · by_cases e : i = k
    · subst e
      rw [vput_same]
      exact set_same ((m.cell (p := ⟨b, i, none⟩) hb nbp).trans (h.cell i hi))
    · rw [vput_other _ _ e]
      exact set_other (fun h => e (by injection h with _ h; exact h.symm)) ((m.cell (p := ⟨b, i, none⟩) hb nbp).trans (h.cell i hi))
  · by_cases e : i = k
    · subst e
      rw [vput_same, NS.put_same]
      exact hr.later (S := (· = b)) ((Mod.refl _ w1).set1 _) (fun g hg => hnb g hg)
    · rw [vput_other _ _ e, NS.put_other _ _ e]
      refine (h.row i hi).later m2 (fun g hg hS => ?_)
      have h1 := h.own i g hi hg
      rcases hS with rfl | hS
      · rw [h.head] at h1; cases h1
      · rw [h.own k g hk hS] at h1
        exact e (Role.bag_inj h1).symm
  · by_cases e : i = k
    · subst e
      rw [vput_same] at hg
      rcases hρ g with ⟨_, h2⟩ | ⟨h1, _⟩
      · exact h2
      · exact absurd hg h1
    · rw [vput_other _ _ e] at hg
      rw [old g ((h.row i hi).blk_lt hg)]
      exact h.own i g hi hg
  · rcases hρ g with ⟨h1, _⟩ | ⟨_, h2⟩
    · have := hr.blk_lt h1
      simpa [World.setCell] using this
    · rw [h2] at hg
      exact Nat.lt_of_lt_of_le (h.top g hg) m2.size
  · by_cases e : i = k
    · subst e; rw [NS.put_same]; exact hl
    · rw [NS.put_other _ _ e]; exact h.most i
  · by_cases e : 9 * i = k
    · rw [e, NS.put_same]; exact hd i hi e.symm
    · rw [NS.put_other _ _ e]; exact h.diag i hi
  · rcases hS with rfl | hS
    · rw [h.head]; intro e; cases e
    · rw [h.own k g hk hS]; intro e; cases e
end
/-! ### plain calls -/
def nodeB (i : Int) : Bool := decide (0 ≤ i) && decide (i < 8)
/-- Is it a link? -/
def linkB (i j : Int) : Bool := nodeB i && nodeB j && !(i == j)
theorem there_any (i : Int) (w : World) :
    Calls Try.prog 44 #[.int .i64 i] w fun e w' => e = .returned (.bool (nodeB i)) ∧ w = w' := by
  by_cases h0 : 0 ≤ i
  · go_enter Try.func44, Try.ntmps44
    go_wp2
    go_ret
    exact ⟨ret_bool (by simp [nodeB, h0]), rfl⟩
  · go_enter Try.func44, Try.ntmps44
    go_wp2
    go_ret
    exact ⟨ret_bool (by simp [nodeB]; omega), rfl⟩
theorem bag_nil (i j : Int) (w : World) :
    Calls Try.prog 29 #[.pointer none, .int .i64 i, .int .i64 j] w fun e w' => e = .returned (.pointer none) ∧ w = w' := by
  go_enter Try.func29, Try.ntmps29
  go_wp2
  go_ret
  exact ⟨rfl, rfl⟩
theorem bag_no {i j : Int} (h : linkB i j = false) (b : Nat) (w : World) :
    Calls Try.prog 29 #[.pointer (some ⟨b, 0, none⟩), .int .i64 i, .int .i64 j] w fun e w' => e = .returned (.pointer none) ∧ w = w' := by
  cases h1 : nodeB i with
  | false =>
    clear h
    go_enter Try.func29, Try.ntmps29
    go_wp2_with fail
    refine (there_any _ _).mono ?_
    rw [h1]
    rintro e w1 ⟨rfl, rfl⟩
    go_wp2
    go_ret
    exact ⟨rfl, rfl⟩
  | true =>
    cases h2 : nodeB j with
    | false =>
      clear h
      go_enter Try.func29, Try.ntmps29
      go_wp2_with fail
      refine (there_any _ _).mono ?_
      rw [h1]
      rintro e w1 ⟨rfl, rfl⟩
      go_wp2_with fail
      refine (there_any _ _).mono ?_
      rw [h2]
      rintro e w1 ⟨rfl, rfl⟩
      go_wp2
      go_ret
      exact ⟨rfl, rfl⟩
    | true =>
      have h3 : (i == j) = true := by simpa [linkB, h1, h2] using h
      clear h
      go_enter Try.func29, Try.ntmps29
      go_wp2_with fail
      refine (there_any _ _).mono ?_
      rw [h1]
      rintro e w1 ⟨rfl, rfl⟩
      go_wp2_with fail
      refine (there_any _ _).mono ?_
      rw [h2]
      rintro e w1 ⟨rfl, rfl⟩
      go_wp2
      go_ret
      exact ⟨rfl, rfl⟩
theorem bag_yes {i j : Nat} (hi : i < 8) (hj : j < 8) (hne : i ≠ j) (b : Nat) (w : World) :
    Calls Try.prog 29 #[.pointer (some ⟨b, 0, none⟩), .int .i64 (i : Int), .int .i64 (j : Int)] w fun e w' => e = .returned (.pointer (some ⟨b, 8 * i + j, none⟩)) ∧ w = w' := by
  have h1 : nodeB i = true := by simp [nodeB]; omega
  have h2 : nodeB j = true := by simp [nodeB]; omega
  have h3 : ((i : Int) == (j : Int)) = false := beq_no (by omega)
  clear hne
  go_enter Try.func29, Try.ntmps29
  go_wp2_with fail
  refine (there_any _ _).mono ?_
  rw [h1]
  rintro e w1 ⟨rfl, rfl⟩
  go_wp2_with fail
  refine (there_any _ _).mono ?_
  rw [h2]
  rintro e w1 ⟨rfl, rfl⟩
  go_wp2
  go_ret
  exact ⟨by rw [Nat.mul_comm]; rfl, rfl⟩
theorem waits_nil (w : World) :
    Calls Try.prog 31 #[.pointer none] w fun e w' => e = .returned (.int .i64 0) ∧ w = w' := by
  go_enter Try.func31, Try.ntmps31
  go_wp2
  go_ret
  exact ⟨rfl, rfl⟩
theorem waits_at {w : World} {b k : Nat} {a : Option Addr} {len cap : Nat} (h : w.cell? ⟨b, k, none⟩ = some (.slice a len cap)) :
    Calls Try.prog 31 #[.pointer (some ⟨b, k, none⟩)] w fun e w' => e = .returned (.int .i64 (len : Int)) ∧ w = w' := by
  go_enter Try.func31, Try.ntmps31
  go_wp2
  go_ret
  exact ⟨rfl, rfl⟩
theorem add_nil (l : List UInt8) (w : World) :
    Calls Try.prog 42 #[.pointer none, .string (str l)] w fun e w' => e = .returned (.bool false) ∧ w = w' := by
  go_enter Try.func42, Try.ntmps42
  go_wp2
  go_ret
  exact ⟨rfl, rfl⟩
section
variable {w : World} {b : Nat} {ρ : Nat → Role} {s : NS} {bv : Nat → Value}
theorem waits_any (h : Nt w b ρ s bv) {k : Nat} (hk : k < 64) :
    Calls Try.prog 31 #[.pointer (some ⟨b, k, none⟩)] w fun e w' => e = .returned (.int .i64 ((s k).length : Int)) ∧ w = w' := by
  have c := h.cell k hk
  obtain ⟨a, cap, hv⟩ := (h.row k hk).slice
  rw [hv] at c
  exact waits_at c
end
end Go.Proofs.Ytakhhpakajafkaa
