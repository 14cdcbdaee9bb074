/- At most 20 texts of at most 200 bytes, out of a slice of texts: what the statements' helper makes. -/
import Derived.Test.YtbniahmnjljgmaaDoorRef02
namespace Go.Proofs.YtbniahmnjljgmaaDoor
open Go.RowKit

def fewS (ss : List (List UInt8)) : List (List UInt8) := (ss.take 20).map (List.take 200)
theorem fewS_length (ss : List (List UInt8)) : (fewS ss).length ≤ 20 := by simp [fewS]; omega
theorem fewS_short (ss : List (List UInt8)) : ∀ l ∈ fewS ss, l.length ≤ 200 := by
  intro l hl
  simp only [fewS, List.mem_map] at hl
  obtain ⟨x, _, rfl⟩ := hl
  simp
  omega
def cellsS (ss : List (List UInt8)) : List Value := ss.map fun l => Value.string (str l)
theorem strs_owned {w : World} {base : Nat} {v : Value} {n : Nat} {ss : List (List UInt8)} (h : w.ownsRow base 9 1 v n (cellsS ss)) (hn : n ≤ maxLen) (hw : ∀ l ∈ ss, l.length ≤ maxLen) :
    ∃ a cap, v = .slice a n cap ∧ IsStrs w a n ss := by
  have hl : ss.length = n := by have := h.1; simpa [cellsS] using this
  have hh := h.2
  rcases hh with ⟨rfl, rfl⟩ | ⟨g, cap, cur, rfl, hb, hg, h1, h2, h3, h4⟩
  · exact ⟨none, 0, rfl, hl, Nat.zero_le _, hw, by omega⟩
  · refine ⟨some ⟨g, 0, none⟩, cap, rfl, hl, hn, hw, fun h0 => ⟨g, 0, rfl, fun i hi => ?_⟩⟩
    have hc := h.cells (g := g) rfl i (.string (str (ss.getD i []))) (by simp [cellsS, List.getD, List.getElem?_eq_getElem (show i < ss.length by omega)])
    rw [Go.WideShapes.add_plain] at hc
    exact hc
theorem infoS : (Tryd.prog.info? 9).map (fun i => (i.zero, i.size, i.bytes)) = some (some (.string ⟨#[]⟩), 1, 16) := by kernel_rfl
set_option maxHeartbeats 1000000 in
theorem few_any (x : Option Addr) (len cap : Nat) (ss : List (List UInt8)) (w : World) (h : IsStrs w x len ss) :
    Calls Tryd.prog 16 #[.slice x len cap] w fun e w' => ∃ a n c, e = .returned (.slice a n c) ∧ IsStrs w' a n (fewS ss) ∧ Below w.heap.size w w' := by
  have hm := h.max
  have hl := h.length
  unfold maxLen at hm
  obtain ⟨i0, hi, hz0, hz1, hz2⟩ := info_parts infoS
  obtain ⟨B, HB⟩ : ∃ B, Hid (w.heap.size = B) := ⟨_, Lib.hid rfl⟩
  rw [HB.out]
  have Hi := Lib.hid hi
  have Hz0 := Lib.hid hz0
  have Hz1 := Lib.hid hz1
  have Hz2 := Lib.hid hz2
  have hsn : ∀ k, k < 20 → k < len → (ss.take (k + 1)).map (List.take 200) = (ss.take k).map (List.take 200) ++ [(ss.getD k []).take 200] := by
    intro k _ hk
    rw [takeS_snoc ss k (by omega), List.map_append, List.map_cons, List.map_nil]
  have Hsn := Lib.hid hsn
  clear hi hz0 hz1 hz2 hsn
  have Hl := Lib.hid hl
  clear hl
  go_enter Tryd.func16, Tryd.ntmps16
  go_wp2
  go_loopw [3, 4] (fun v i wr => ∃ k : Nat, k ≤ len ∧ k ≤ 20 ∧ i = .int .i64 k ∧ wr.ownsRow B 9 1 v k (cellsS ((ss.take k).map (List.take 200))) ∧ Below B w wr) (fun _ i _ => 20 - (intOf i).toNat)
  case atStart => exact ⟨0, Nat.zero_le _, by omega, rfl, World.ownsRow_nil _ _ _ _, Below.refl _ _⟩
  case round =>
    obtain ⟨k, hk, hk20, rfl, hown, hbel⟩ := hrel
    have Hown := Lib.hid hown
    have Hbel := Lib.hid hbel
    clear hown hbel
    by_cases hlt : k < len
    · by_cases hlt2 : k < 20
      · have h' := h.below (HB.out ▸ Hbel.out)
        obtain ⟨b', off, ea, hc⟩ := h'.cells (by omega)
        have hck := hc k hlt
        obtain ⟨y, Hy⟩ : ∃ y, Hid (ss.getD k [] = y) := ⟨_, Lib.hid rfl⟩
        rw [Hy.out] at hck
        clear hc h'
        subst ea
        have H := Lib.hid h
        clear h
        go_wp2_with fail
        refine (short_any y 200 (by omega) (by omega) _).mono ?_
        rintro e w2 ⟨rfl, rfl⟩
        rw [show (200 : Int).toNat = 200 from rfl]
        go_wp2_with (at_builtin; refine wpList_append_own _ rfl _ _ 29 rfl B 9 i0 (.string ⟨#[]⟩) 1 16 Tryd.underlying29 Hi.out Hz0.out Hz1.out Hz2.out rfl (by decide) _ _ _ rfl (Hown.out.alloc _) ⟨wr.heap.size, 0, none⟩ 1 1 [.string (str (y.take 200))] rfl rfl ?c1 ?c2 ?c3 ?c4 ?c5 ?_)
        case c1 =>
          intro j u hj
          match j, hj with
          | 0, hj => simp at hj; subst hj; simp [Addr.add, go_sem]
        case c2 => intro u hu; simp at hu; subst hu; rfl
        case c3 => unfold maxLen; omega
        case c4 => omega
        case c5 => have := Hbel.out.size; have := HB.out; simp; omega
        intro v' w1 hown' hgrow _
        have Hown' := Lib.hid hown'
        have Hbel' := Lib.hid (Below.grown (Hbel.out.alloc (by have := Hbel.out.size; have := HB.out; omega) _) hgrow (by have := Hbel.out.size; have := HB.out; simp; omega) fun r hr => (Hown.out.lt r hr).1)
        clear hown' hgrow
        go_wp2
        go_roundw
        case rel =>
          refine ⟨k + 1, by omega, by omega, by go_num, ?_, Hbel'.out⟩
          have h3 := Hown'.out
          rw [Hsn.out k hlt2 hlt, Hy.out]
          simp only [cellsS, List.map_take, List.map_append, List.map_cons, List.map_nil] at h3 ⊢
          exact h3
        case measure => simp [intOf]; omega
      · obtain rfl : k = 20 := by omega
        go_wp2
        go_ret
        obtain ⟨a, c, rfl, hs⟩ := strs_owned Hown.out (by decide) (fun l hl => by
          simp only [List.mem_map] at hl
          obtain ⟨x, _, rfl⟩ := hl
          simp only [List.length_take, maxLen]
          omega)
        exact ⟨a, 20, c, rfl, hs, Hbel.out⟩
    · obtain rfl : k = len := by omega
      go_wp2
      go_ret
      obtain ⟨a, c, rfl, hs⟩ := strs_owned Hown.out h.max (fun l hl => by
        simp only [List.mem_map] at hl
        obtain ⟨x, _, rfl⟩ := hl
        simp only [List.length_take, maxLen]
        omega)
      have e : ss.take k = ss.take 20 := by rw [List.take_of_length_le (by rw [Hl.out]; omega), List.take_of_length_le (by rw [Hl.out]; omega)]
      rw [e] at hs
      exact ⟨a, k, c, rfl, hs, Hbel.out⟩
end Go.Proofs.YtbniahmnjljgmaaDoor
