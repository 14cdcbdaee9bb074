/- What turns one link's bag: a message put in, taken out, doubled. -/
import Derived.Test.YtakhhpakajafkaaBag
namespace Go.Proofs.Ytakhhpakajafkaa
open Go.RowKit

theorem infoS : (Try.prog.info? 9).map (fun i => (i.zero, i.size, i.bytes)) = some (some (.string ByteArray.empty), 1, 16) := by kernel_rfl
/-- Is k a link's place? -/
def LinkAt (k : Nat) : Prop := k < 64 ∧ ∀ i, i < 8 → k ≠ 9 * i
section
variable {w : World} {b : Nat} {ρ : Nat → Role} {s : NS} {bv : Nat → Value}
theorem add_full (h : Nt w b ρ s bv) {k : Nat} (hk : k < 64) (hf : 200 ≤ (s k).length) (l : List UInt8) :
    Calls Try.prog 42 #[.pointer (some ⟨b, k, none⟩), .string (str l)] w fun e w' => e = .returned (.bool false) ∧ w = w' := by
  have hf' : decide ((200 : Int) ≤ ((s k).length : Int)) = true := by simp; omega
  go_enter Try.func42, Try.ntmps42
  go_wp2_with fail
  refine (waits_any h hk).mono ?_
  rintro e w1 ⟨rfl, rfl⟩
  go_wp2
  go_ret
  exact ⟨rfl, rfl⟩
theorem add_yes (h : Nt w b ρ s bv) {k : Nat} (hk : LinkAt k) (hf : (s k).length < 200) (l : List UInt8) :
    Calls Try.prog 42 #[.pointer (some ⟨b, k, none⟩), .string (str l)] w (Did w b ρ (s.put k (s k ++ [l])) (.bool true)) := by
  have hf' : decide ((200 : Int) ≤ ((s k).length : Int)) = false := by simp; omega
  have c := h.cell k hk.1
  obtain ⟨a, cap, hv⟩ := (h.row k hk.1).slice
  rw [hv] at c
  have Hv := Lib.hid hv
  have Hh := Lib.hid h
  have Hk := Lib.hid hk
  have f0 := h.free k hk.1
  obtain ⟨i0, hi0, hz0, hz1, hz2⟩ := info_parts infoS
  have Hi := Lib.hid hi0
  have Hz0 := Lib.hid hz0
  have Hz1 := Lib.hid hz1
  have Hz2 := Lib.hid hz2
  have Hc3 : Hid ((s k).length + 1 ≤ maxLen) := Lib.hid (by unfold maxLen; omega)
  have Hc4 : Hid (((s k).length + 1) * 16 ≤ 140737488355328) := Lib.hid (by omega)
  have hrow := h.row k hk.1
  rw [hv] at hrow
  have Hrow := Lib.hid hrow
  have HrowA := Lib.hid (Row.later hrow (Mod.of_below (S := fun _ => False) ((Below.refl _ w).alloc (Nat.le_refl _) (.cells #[.string (str l)] 9))) (fun _ _ => id))
  have Hc1 : Hid (∀ j u, [Value.string (str l)][j]? = some u → (w.alloc (.cells #[.string (str l)] 9)).cell? ((⟨w.heap.size, 0, none⟩ : Addr).add j) = some u) := Lib.hid fun j u hj => by
    match j, hj with
    | 0, hj => simp at hj; subst hj; simp [Addr.add, go_sem]
  have Hc2 : Hid (∀ u ∈ [Value.string (str l)], u.oneCell' = true) := Lib.hid fun u hu => by
    simp at hu
    subst hu; rfl
  have hnb : ¬ (blk (.slice a (s k).length cap) = some b) := fun e => by rw [← hv] at e; have := h.own k b hk.1 e; rw [h.head] at this; cases this
  have Hnb := Lib.hid hnb
  have Hf := Lib.hid hf
  have Hbl := Lib.hid h.lt
  have HA : Hid (Below w.heap.size w (w.alloc (.cells #[.string (str l)] 9))) := Lib.hid ((Below.refl _ w).alloc (Nat.le_refl _) _)
  have Hbs : Hid (b < (w.alloc (.cells #[.string (str l)] 9)).heap.size) := Lib.hid (Nat.lt_of_lt_of_le h.lt HA.out.size)
  clear hv hrow hi0 hz0 hz1 hz2 hk hf h hnb
  go_enter Try.func42, Try.ntmps42
  go_wp2_with fail
  refine (waits_any Hh.out Hk.out.1).mono ?_
  rintro e w1 ⟨rfl, rfl⟩
  go_wp2_with (refine wpList_append_row _ rfl (.tmp 15) (.tmp 17) 52 rfl HrowA.out 9 i0 (.string ByteArray.empty) 16 Try.underlying52 Hi.out Hz0.out Hz1.out Hz2.out rfl (by decide) rfl ⟨w.heap.size, 0, none⟩ 1 1 [.string (str l)] rfl rfl Hc1.out Hc2.out (by decide) Hc3.out Hc4.out ?_; intro x cap' w2 hr2 hm2 hb2; have Hr2 := Lib.hid hr2; have Hm2 := Lib.hid hm2; have Hb2 := Lib.hid hb2; have c2 := (hm2.cell (p := ⟨b, k, none⟩) Hbs.out Hnb.out).trans ((HA.out.cell (p := ⟨b, k, none⟩) Hbl.out).trans c); have f2 := (hm2.frozen (p := ⟨b, k, none⟩) Hbs.out Hnb.out).trans ((HA.out.frozen (p := ⟨b, k, none⟩) Hbl.out).trans f0); clear hr2 hm2 hb2)
  go_ret
  have hr2 : Rw w2 (.slice (some x) ((s k).length + 1) cap') (s k ++ [l]) := by
    have e := Hr2.out
    unfold Rw
    rw [sv_append, List.length_append, List.length_singleton]
    exact e
  obtain ⟨ρ', hN, hS⟩ := Hh.out.put Hk.out.1 (w1 := w2) (v' := .slice (some x) ((s k).length + 1) cap') (l := s k ++ [l]) (by rw [Hv.out]; exact (Mod.of_below HA.out).trans Hm2.out) hr2
    (fun g hg => by
      rw [Hv.out]
      rcases Hb2.out with h1 | ⟨g', h1, h2⟩
      · rw [h1] at hg; exact .inl hg
      · rw [hg] at h1; injection h1 with h1; subst h1; exact .inr (Nat.le_trans HA.out.size h2))
    (by have := Hf.out; simp; omega) (fun i hi e => absurd e (Hk.out.2 i hi))
  exact ⟨rfl, ρ', hN, hS⟩
theorem take_yes (h : Nt w b ρ s bv) {k : Nat} (hk : k < 64) {p : Nat} (hp : p < (s k).length) :
    Calls Try.prog 32 #[.pointer (some ⟨b, k, none⟩), .int .i64 (p : Int)] w (fun e w' => Did w b ρ (s.put k ((s k).eraseIdx p)) (.string (str (s k)[p])) e w' ∧ w'.heap.size = w.heap.size) := by
  have c := h.cell k hk
  obtain ⟨g, off, cap, hv, hc⟩ := (h.row k hk).get hp
  rw [hv] at c
  have Hv := Lib.hid hv
  have Hh := Lib.hid h
  have hm := h.most k
  have hrow := h.row k hk
  rw [hv] at hrow
  have Hrow := Lib.hid hrow
  have Hnb : Hid (¬ (blk (.slice (some ⟨g, off, none⟩) (s k).length cap) = some b)) := Lib.hid fun e => by rw [← hv] at e; have := h.own k b hk e; rw [h.head] at this; cases this
  have Hbl := Lib.hid h.lt
  have f0 := h.free k hk
  clear hv hrow h
  go_enter Try.func32, Try.ntmps32
  go_wp2_with fail
  refine (Delete_row Hrow.out hp).mono ?_
  rintro e w2 ⟨v', rfl, hr2, hm2, hb2, hz2⟩
  have Hz2 := Lib.hid hz2
  clear hz2
  have c2 := (hm2.cell (p := ⟨b, k, none⟩) Hbl.out Hnb.out).trans c
  have f2 := (hm2.frozen (p := ⟨b, k, none⟩) Hbl.out Hnb.out).trans f0
  obtain ⟨a', cap', hv'⟩ := hr2.slice
  subst hv'
  have Hr2 := Lib.hid hr2
  have Hm2 := Lib.hid hm2
  have Hb2 := Lib.hid hb2
  clear hr2 hm2 hb2
  go_wp2
  go_ret
  obtain ⟨ρ', hN, hS⟩ := Hh.out.put hk (w1 := w2) (l := (s k).eraseIdx p) (by rw [Hv.out]; exact Hm2.out) Hr2.out (fun g hg => by rw [Hv.out]; rw [Hb2.out] at hg; exact .inl hg) (by rw [List.length_eraseIdx]; split <;> omega)
    (fun i hi e => by subst e; have := Hh.out.diag i hi; rw [this] at hp; simp at hp)
  exact ⟨⟨rfl, ρ', hN, hS⟩, by have := Hz2.out; simpa [World.setCell] using this⟩
theorem double_yes (h : Nt w b ρ s bv) {k : Nat} (hk : LinkAt k) {p : Nat} (hp : p < (s k).length) (hf : (s k).length < 200) :
    Calls Try.prog 40 #[.pointer (some ⟨b, k, none⟩), .int .i64 (p : Int)] w (Did w b ρ (s.put k (s k ++ [(s k)[p]])) (.bool true)) := by
  have c := h.cell k hk.1
  obtain ⟨g, off, cap, hv, hc⟩ := (h.row k hk.1).get hp
  rw [hv] at c
  have Hv := Lib.hid hv
  have hm := h.most k
  have Hk := Lib.hid hk
  have Hh := Lib.hid h
  clear hv h hk
  go_enter Try.func40, Try.ntmps40
  go_wp2_with fail
  refine (add_yes Hh.out Hk.out hf _).mono ?_
  rintro e w2 ⟨rfl, ρ', hN, hS⟩
  go_wp2
  go_ret
  exact ⟨rfl, ρ', hN, hS⟩
theorem double_no (h : Nt w b ρ s bv) {k : Nat} (hk : k < 64) {p : Nat} (hp : p < (s k).length) (hf : 200 ≤ (s k).length) :
    Calls Try.prog 40 #[.pointer (some ⟨b, k, none⟩), .int .i64 (p : Int)] w fun e w' => e = .returned (.bool false) ∧ w = w' := by
  have c := h.cell k hk
  obtain ⟨g, off, cap, hv, hc⟩ := (h.row k hk).get hp
  rw [hv] at c
  have Hv := Lib.hid hv
  have hm := h.most k
  have Hh := Lib.hid h
  clear hv h
  go_enter Try.func40, Try.ntmps40
  go_wp2_with fail
  refine (add_full Hh.out hk hf _).mono ?_
  rintro e w2 ⟨rfl, rfl⟩
  go_wp2
  go_ret
  exact ⟨rfl, rfl⟩
end
end Go.Proofs.Ytakhhpakajafkaa
