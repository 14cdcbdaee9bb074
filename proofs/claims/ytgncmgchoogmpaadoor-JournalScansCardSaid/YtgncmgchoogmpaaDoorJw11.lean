/- A row that is made of changes by plain numbers, at this translation. -/
import Derived.Test.YtgncmgchoogmpaaDoorSp11
import Derived.Test.YtgncmgchoogmpaaDoorJv11
namespace Go.Proofs.YtgncmgchoogmpaaDoor
open Go.RowKit

def maskS (x : Int) : Int := bits .and .i64 x 65535
theorem maskS_is (x : Int) : 0 ≤ maskS x ∧ maskS x ≤ 65535 := by
  obtain ⟨k, h, hk⟩ := and_mask x 65535 (by omega)
  have := h.out
  unfold maskS
  rw [show (65535 : Int) = ((65535 : Nat) : Int) from rfl, this]
  omega
def chOf (s : Sp) : Ch := (maskS s.1, secS s.2.1)
theorem chOf_ok (s : Sp) : okC (chOf s) := ⟨(maskS_is s.1).1, by have := (maskS_is s.1).2; show maskS s.1 < 65536; omega, secS_length _⟩
def rowSp (l : List Sp) : List Ch := l.foldl (fun out s => putV out (chOf s)) []
theorem rowSp_snoc (l : List Sp) (s : Sp) : rowSp (l ++ [s]) = putV (rowSp l) (chOf s) := by simp [rowSp]
theorem foldl_row : ∀ (l : List Sp) (a : List Ch), rowB a = true → rowB (l.foldl (fun out s => putV out (chOf s)) a) = true ∧ (l.foldl (fun out s => putV out (chOf s)) a).length ≤ a.length + l.length
  | [], a, h => ⟨h, by simp⟩
  | s :: l, a, h => by
    obtain ⟨h1, h2⟩ := foldl_row l (putV a (chOf s)) (putV_row h (chOf_ok s))
    refine ⟨h1, ?_⟩
    have := putV_length a (chOf s)
    simp only [List.foldl_cons, List.length_cons]
    omega
theorem rowSp_row (l : List Sp) : rowB (rowSp l) = true := (foldl_row l [] rfl).1
theorem rowSp_length (l : List Sp) : (rowSp l).length ≤ l.length := by
  have := (foldl_row l [] rfl).2
  simpa [rowSp] using this
set_option maxRecDepth 100000 in
set_option maxHeartbeats 4000000 in
theorem lrow_any (A : Option Addr) (n c : Nat) (l : List Sp) (most : Nat) (hmost : most ≤ 100) (w : World) (h : IsG w 3 encP A n l) :
    Calls Tryd.prog 14 #[.slice A n c, .int .i64 (most : Int)] w fun e w' => ∃ v, e = .returned v ∧ RG w' 2 encC v (rowSp (l.take most)) ∧ (∀ g, blk v = some g → w.heap.size ≤ g) ∧ Below w.heap.size w w' := by
  have hm := h.small
  have hlen := Lib.hid h.length
  have HL := Lib.hid h
  clear h
  go_enter Tryd.func14, Tryd.ntmps14
  go_wp2_with fail
  go_loopw [5, 6] (fun v i wr => ∃ (k : Nat) (T : Value), k ≤ n ∧ k ≤ most ∧ i = .int .i64 k ∧ v = T ∧ Hid (RG wr 2 encC T (rowSp (l.take k))) ∧ Hid (∀ g, blk T = some g → w.heap.size ≤ g) ∧ Hid (Below w.heap.size w wr)) (fun _ i _ => n - (intOf i).toNat)
  case atStart => exact ⟨0, .slice none 0 0, Nat.zero_le _, Nat.zero_le _, rfl, rfl, Lib.hid (RG.nil _ _ _), Lib.hid (fun g hg => by cases hg), Lib.hid (Below.refl _ _)⟩
  case round =>
    obtain ⟨k, T, hk, hk2, rfl, rfl, HR, HN, HB⟩ := hrel
    by_cases hlt : k < n
    · have hkI : (k : Int) < (n : Int) := by omega
      by_cases hlt2 : k < most
      · have hkI2 : (k : Int) < (most : Int) := by omega
        obtain ⟨g, off, rfl, hg, hc⟩ := (HL.out.below HB.out).cells (by omega)
        obtain ⟨x, hx⟩ : ∃ x, l[k]? = some x := ⟨_, List.getElem?_eq_getElem (by have := hlen.out; omega)⟩
        have c0 := hc k x 0 (.int .i64 x.1) hx rfl
        have c1 := hc k x 1 (.int .u8 x.2.1) hx rfl
        rw [Nat.add_zero] at c0
        have hst : Hid (rowSp (l.take (k + 1)) = putV (rowSp (l.take k)) (chOf x)) := Lib.hid (by
          obtain ⟨hk', he⟩ := List.getElem?_eq_some_iff.1 hx
          rw [List.take_succ_eq_append_getElem hk', he, rowSp_snoc])
        have q0 : ∀ y : In (Abv wr), y.u.cell? ⟨g, off + k * 3, none⟩ = some (.int .i64 x.1) := fun y => (y.is.cell (p := ⟨g, off + k * 3, none⟩) hg).trans c0
        have q1 : ∀ y : In (Abv wr), y.u.cell? ⟨g, off + k * 3 + 1, none⟩ = some (.int .u8 x.2.1) := fun y => (y.is.cell (p := ⟨g, off + k * 3 + 1, none⟩) hg).trans c1
        have hrl : Hid ((rowSp (l.take k)).length ≤ 1000) := Lib.hid (by have := rowSp_length (l.take k); rw [List.length_take] at this; omega)
        obtain ⟨ms, Hms⟩ : ∃ y, Hid (bits .and .i64 x.1 65535 = y) := ⟨_, Lib.hid rfl⟩
        have hms := Hms.out
        have hch : Hid (chOf x = (ms, secS x.2.1)) := Lib.hid (by rw [chOf, maskS, hms])
        clear hc hx c0 c1 hg
        go_wp2_with fail
        refine wp_region_mix (by kernel_rfl) (Cls (Abv wr)) [(0, 0), (1, 0), (2, 0), (3, 0), (4, 0), (5, 0), (6, 0), (7, 0), (8, 0), (9, 0), (10, 0), (11, 0), (12, 1), (13, 0), (14, 1), (15, 0)] (by kernel_rfl) (cls (Below.refl _ wr).drew) ?_
        repeat (refine mix0 rfl (fun K hK => ?_); go_simp; refine hK _ ?_; clear hK K)
        refine mix1 rfl (fun K hK => ?_)
        go_simp
        refine (sector_any _ _).mono ?_
        rintro e w3 ⟨rfl, hb3⟩
        have B3 : Hid (Below wr.heap.size wr w3) := Lib.hid (bnext (Below.refl _ wr).drew hb3)
        clear hb3 q0 q1
        refine ⟨_, rfl, hK _ _ (cls B3.out) ?_⟩
        clear hK K
        repeat (refine mix0 rfl (fun K hK => ?_); go_simp; refine hK _ ?_; clear hK K)
        refine mix1 rfl (fun K hK => ?_)
        go_simp
        rw [show (.agg #[.int .i64 ms, .string (str (secS x.2.1))] : Value) = chV (chOf x) by rw [hch.out]; rfl]
        refine (xPut_any _ _ (chOf x) w3 (HR.out.below B3.out) hrl.out).mono ?_
        rintro e w4 ⟨v4, rfl, r4, n4, b4⟩
        have R4 : Hid (RG w4 2 encC v4 (rowSp (l.take (k + 1)))) := Lib.hid (by rw [hst.out]; exact r4)
        have B4 : Hid (Below wr.heap.size wr w4) := Lib.hid (bnext B3.out b4)
        have N4 : Hid (∀ g, blk v4 = some g → w.heap.size ≤ g) := Lib.hid (fun g hg => by have := n4 g hg; have := B3.out.size; have := HB.out.size; omega)
        clear r4 n4 b4
        refine ⟨_, rfl, hK _ _ (cls B4.out) ?_⟩
        clear hK K
        repeat (refine mix0 rfl (fun K hK => ?_); go_simp; refine hK _ ?_; clear hK K)
        refine mixEnd ?_
        clear hms
        go_wp2
        go_roundw
        case rel => exact ⟨k + 1, v4, by omega, by omega, by go_num, rfl, R4, N4, Lib.hid (bnext HB.out B4.out)⟩
        case measure => simp [intOf]; omega
      · obtain rfl : k = most := by omega
        have hkI2 : ¬ (k : Int) < (k : Int) := by omega
        go_wp2
        go_ret
        exact ⟨u5, rfl, HR.out, HN.out, HB.out⟩
    · obtain rfl : k = n := by omega
      have hkI : ¬ (k : Int) < (k : Int) := by omega
      go_wp2
      go_ret
      exact ⟨u5, rfl, by rw [List.take_of_length_le (by have := hlen.out; omega : l.length ≤ most)] ; rw [List.take_of_length_le (by have := hlen.out; omega)] at HR; exact HR.out, HN.out, HB.out⟩
end Go.Proofs.YtgncmgchoogmpaaDoor
