/- What the document's rows, lines and records of layer 11 give, at this translation. -/
import Derived.Test.YtgncmgchoogmpaaDoorRj11
namespace Go.Proofs.YtgncmgchoogmpaaDoor
open Go.RowKit

/-- The sector of a text of one byte. -/
def secS (b : Int) : List UInt8 := fillS [UInt8.ofNat b.toNat]
theorem secS_length (b : Int) : (secS b).length = 512 := fillS_length (by simp)
theorem sector_any (b : Int) (w : World) :
    Calls Tryd.prog 15 #[.int .u8 b] w fun e w' => e = .returned (.string (str (secS b))) ∧ Below w.heap.size w w' := by
  have hbs := bs1
  go_enter Tryd.func15, Tryd.ntmps15
  go_wp2_with fail
  refine (XFill_any _ (by simp [maxLen]) _).mono ?_
  rintro e w1 ⟨rfl, hb⟩
  go_wp2
  go_ret
  exact ⟨rfl, bnext (balloc (Below.refl _ _) _) hb⟩
def lastOf (l : List Ch) : Nat → Int
  | 0 => -1
  | k + 1 => ((l[k]?).map Prod.fst).getD 0
/-- How far Row's search is: what is left decides. -/
structure Rwk (l : List Ch) (k : Nat) (R : Bool) : Prop where
  ge : -1 ≤ lastOf l k
  eq : R = rowFrom (lastOf l k) (l.drop k)
theorem Rwk.start (l : List Ch) : Rwk l 0 (rowB l) := ⟨by simp [lastOf], rfl⟩
theorem drop_at {l : List Ch} {k : Nat} {x : Ch} (hx : l[k]? = some x) : l.drop k = x :: l.drop (k + 1) := by
  obtain ⟨hk', he⟩ := List.getElem?_eq_some_iff.1 hx
  rw [List.drop_eq_getElem_cons hk', he]
theorem Rwk.neg {l : List Ch} {k : Nat} {R : Bool} (h : Rwk l k R) {x : Ch} (hx : l[k]? = some x) (h1 : x.1 < 0) : R = false := by
  have := h.ge
  rw [h.eq, drop_at hx, rowFrom, show decide (lastOf l k < x.1) = false by simp; omega, Bool.false_and]
theorem Rwk.big {l : List Ch} {k : Nat} {R : Bool} (h : Rwk l k R) {x : Ch} (hx : l[k]? = some x) (h1 : 65535 < x.1) : R = false := by
  rw [h.eq, drop_at hx, rowFrom, show decide (x.1 < 65536) = false by simp; omega, Bool.false_and, Bool.and_false]
theorem Rwk.len {l : List Ch} {k : Nat} {R : Bool} (h : Rwk l k R) {x : Ch} (hx : l[k]? = some x) (h1 : x.2.length ≠ 512) : R = false := by
  rw [h.eq, drop_at hx, rowFrom, show decide (x.2.length = 512) = false by simpa using h1, Bool.false_and, Bool.and_false, Bool.and_false]
theorem lastOf_succ {l : List Ch} {k : Nat} {y : Ch} (hy : l[k]? = some y) : lastOf l (k + 1) = y.1 := by rw [lastOf, hy]; rfl
theorem Rwk.down {l : List Ch} {k : Nat} {R : Bool} (h : Rwk l (k + 1) R) {x y : Ch} (hx : l[k + 1]? = some x) (hy : l[k]? = some y) (h1 : x.1 ≤ y.1) : R = false := by
  rw [h.eq, drop_at hx, lastOf_succ hy, rowFrom, show decide (y.1 < x.1) = false by simp; omega, Bool.false_and]
theorem Rwk.next0 {l : List Ch} {R : Bool} (h : Rwk l 0 R) {x : Ch} (hx : l[0]? = some x) (h0 : 0 ≤ x.1) (h1 : x.1 ≤ 65535) (h2 : x.2.length = 512) : Rwk l 1 R := by
  refine ⟨by rw [lastOf_succ hx]; omega, ?_⟩
  rw [h.eq, drop_at hx, lastOf_succ hx, rowFrom, show decide (lastOf l 0 < x.1) = true by rw [show lastOf l 0 = -1 from rfl]; simp; omega, show decide (x.1 < 65536) = true by simp; omega, h2]
  rfl
theorem Rwk.next {l : List Ch} {k : Nat} {R : Bool} (h : Rwk l (k + 1) R) {x y : Ch} (hx : l[k + 1]? = some x) (hy : l[k]? = some y) (h0 : 0 ≤ x.1) (h1 : x.1 ≤ 65535) (h2 : x.2.length = 512) (h3 : y.1 < x.1) : Rwk l (k + 2) R := by
  refine ⟨by rw [lastOf_succ hx]; omega, ?_⟩
  rw [h.eq, drop_at hx, lastOf_succ hx, lastOf_succ hy, rowFrom, show decide (y.1 < x.1) = true by simp; omega, show decide (x.1 < 65536) = true by simp; omega, h2]
  rfl
theorem Rwk.fin {l : List Ch} {k : Nat} {R : Bool} (h : Rwk l k R) (hk : k = l.length) : R = true := by
  rw [h.eq, List.drop_of_length_le (by omega)]
  rfl
set_option maxRecDepth 100000 in
set_option maxHeartbeats 1000000 in
theorem xRow_any (A : Option Addr) (n c : Nat) (l : List Ch) (w : World) (h : IsG w 2 encC A n l) :
    Calls Tryd.prog 21 #[.slice A n c] w fun e w' => e = .returned (.bool (rowB l)) ∧ Below w.heap.size w w' := by
  have hm := h.small
  have hlen := Lib.hid h.length
  have HL := Lib.hid h
  have HS := Lib.hid (Rwk.start l)
  obtain ⟨R, HR⟩ : ∃ r, Hid (rowB l = r) := ⟨_, Lib.hid rfl⟩
  rw [HR.out] at HS ⊢
  clear h HR
  go_enter Tryd.func21, Tryd.ntmps21
  go_wp2
  go_loopw [3] (fun i wr => ∃ (k : Nat), k ≤ n ∧ i = .int .i64 k ∧ Hid (Rwk l k R) ∧ Hid (Below w.heap.size w wr)) (fun i _ => n - (intOf i).toNat)
  case atStart => exact ⟨0, Nat.zero_le _, rfl, HS, Lib.hid (Below.refl _ _)⟩
  case round =>
    obtain ⟨k, hk, rfl, Hz, Hb⟩ := hrel
    by_cases hlt : k < n
    · obtain ⟨g, off, rfl, hg, hc⟩ := (HL.out.below Hb.out).cells (by omega)
      obtain ⟨x, hx⟩ : ∃ x, l[k]? = some x := ⟨_, List.getElem?_eq_getElem (by have := hlen.out; omega)⟩
      have c0 := hc k x 0 (.int .i64 x.1) hx rfl
      rw [Nat.add_zero] at c0
      have c1 := hc k x 1 (.string (str x.2)) hx rfl
      have Hx := Lib.hid hx
      have Hc := Lib.hid hc
      have q0 : ∀ y : In (Abv wr), y.u.cell? ⟨g, off + k * 2, none⟩ = some (.int .i64 x.1) := fun y => (y.is.cell (p := ⟨g, off + k * 2, none⟩) hg).trans c0
      have q1 : ∀ y : In (Abv wr), y.u.cell? ⟨g, off + k * 2 + 1, none⟩ = some (.string (str x.2)) := fun y => (y.is.cell (p := ⟨g, off + k * 2 + 1, none⟩) hg).trans c1
      have hkI : (k : Int) < (n : Int) := by omega
      clear hc hx HS
      by_cases h1 : x.1 < 0
      · have hr : Hid (R = false) := Lib.hid (Hz.out.neg Hx.out h1)
        go_wp2_with fail
        refine wp_region_mix (by kernel_rfl) (Cls (Abv wr)) [(0, 0), (1, 0), (2, 0), (3, 0), (4, 0), (5, 0), (6, 0), (7, 0), (8, 0), (9, 0), (10, 0), (11, 0), (12, 0), (13, 0), (14, 0), (15, 0), (16, 0), (17, 0), (18, 0), (19, 0), (20, 0), (21, 0), (22, 0), (23, 0), (24, 0), (25, 0), (26, 0), (27, 0), (28, 0), (29, 0), (30, 0), (31, 0), (32, 0), (33, 0), (34, 0), (35, 0), (36, 0), (37, 0), (38, 0), (39, 0), (40, 0)] (by kernel_rfl) (cls (Below.refl _ wr).drew) ?_
        repeat (refine mix0 rfl (fun K hK => ?_); go_simp; refine hK _ ?_; clear hK K)
        refine mixEnd ?_
        go_wp2
        go_ret
        exact ⟨ret_bool hr.out.symm, Hb.out.drew⟩
      · by_cases h2 : 65535 < x.1
        · have hr : Hid (R = false) := Lib.hid (Hz.out.big Hx.out h2)
          go_wp2_with fail
          refine wp_region_mix (by kernel_rfl) (Cls (Abv wr)) [(0, 0), (1, 0), (2, 0), (3, 0), (4, 0), (5, 0), (6, 0), (7, 0), (8, 0), (9, 0), (10, 0), (11, 0), (12, 0), (13, 0), (14, 0), (15, 0), (16, 0), (17, 0), (18, 0), (19, 0), (20, 0), (21, 0), (22, 0), (23, 0), (24, 0), (25, 0), (26, 0), (27, 0), (28, 0), (29, 0), (30, 0), (31, 0), (32, 0), (33, 0), (34, 0), (35, 0), (36, 0), (37, 0), (38, 0), (39, 0), (40, 0)] (by kernel_rfl) (cls (Below.refl _ wr).drew) ?_
          repeat (refine mix0 rfl (fun K hK => ?_); go_simp; refine hK _ ?_; clear hK K)
          refine mixEnd ?_
          go_wp2
          go_ret
          exact ⟨ret_bool hr.out.symm, Hb.out.drew⟩
        · by_cases h3 : x.2.length = 512
          · have q3 : ((x.2.length : Int) != 512) = false := by rw [h3]; rfl
            have H3 := Lib.hid h3
            clear h3
            rcases Nat.eq_zero_or_pos k with h0 | h0
            · subst h0
              have HN : Hid (Rwk l 1 R) := Lib.hid (Hz.out.next0 Hx.out (by omega) (by omega) H3.out)
              simp only [Nat.zero_mul, Nat.add_zero] at q0 q1
              clear Hc
              go_wp2_with fail
              refine wp_region_mix (by kernel_rfl) (Cls (Abv wr)) [(0, 0), (1, 0), (2, 0), (3, 0), (4, 0), (5, 0), (6, 0), (7, 0), (8, 0), (9, 0), (10, 0), (11, 0), (12, 0), (13, 0), (14, 0), (15, 0), (16, 0), (17, 0), (18, 0), (19, 0), (20, 0), (21, 0), (22, 0), (23, 0), (24, 0), (25, 0), (26, 0), (27, 0), (28, 0), (29, 0), (30, 0), (31, 0), (32, 0), (33, 0), (34, 0), (35, 0), (36, 0), (37, 0), (38, 0), (39, 0), (40, 0)] (by kernel_rfl) (cls (Below.refl _ wr).drew) ?_
              repeat (refine mix0 rfl (fun K hK => ?_); go_simp; refine hK _ ?_; clear hK K)
              refine mixEnd ?_
              go_wp2
              go_roundw
              case rel => exact ⟨1, by omega, by go_num, HN, Lib.hid Hb.out.drew⟩
              case measure => simp [intOf]; omega
            · obtain ⟨j, hj⟩ : ∃ j, Hid (k = j + 1) := ⟨k - 1, Lib.hid (by omega)⟩
              have Hx' : Hid (l[j + 1]? = some x) := Lib.hid (by rw [← hj.out]; exact Hx.out)
              have Hz' : Hid (Rwk l (j + 1) R) := Lib.hid (by rw [← hj.out]; exact Hz.out)
              obtain ⟨y, hy⟩ : ∃ y, l[j]? = some y := ⟨_, List.getElem?_eq_getElem (by have := hlen.out; have := hj.out; omega)⟩
              have c2 := Hc.out j y 0 (.int .i64 y.1) hy rfl
              rw [Nat.add_zero] at c2
              have q2 : ∀ z : In (Abv wr), z.u.cell? ⟨g, off + j * 2, none⟩ = some (.int .i64 y.1) := fun z => (z.is.cell (p := ⟨g, off + j * 2, none⟩) hg).trans c2
              have Hy := Lib.hid hy
              have i1 : (0 : Int) < (k : Int) := by omega
              have i3 : IntKind.i64.wrap ((k : Int) - 1) = (j : Int) := by rw [IntWalk.i64_in _ (by omega)]; have := hj.out; omega
              have i4 : (j : Int) < (n : Int) := by have := hj.out; omega
              have i5 : j < n := by have := hj.out; omega
              clear hy c2 Hc
              by_cases h4 : x.1 ≤ y.1
              · have hr : Hid (R = false) := Lib.hid (Hz'.out.down Hx'.out Hy.out h4)
                go_wp2_with fail
                refine wp_region_mix (by kernel_rfl) (Cls (Abv wr)) [(0, 0), (1, 0), (2, 0), (3, 0), (4, 0), (5, 0), (6, 0), (7, 0), (8, 0), (9, 0), (10, 0), (11, 0), (12, 0), (13, 0), (14, 0), (15, 0), (16, 0), (17, 0), (18, 0), (19, 0), (20, 0), (21, 0), (22, 0), (23, 0), (24, 0), (25, 0), (26, 0), (27, 0), (28, 0), (29, 0), (30, 0), (31, 0), (32, 0), (33, 0), (34, 0), (35, 0), (36, 0), (37, 0), (38, 0), (39, 0), (40, 0)] (by kernel_rfl) (cls (Below.refl _ wr).drew) ?_
                repeat (refine mix0 rfl (fun K hK => ?_); go_simp; refine hK _ ?_; clear hK K)
                refine mixEnd ?_
                go_wp2
                go_ret
                exact ⟨ret_bool hr.out.symm, Hb.out.drew⟩
              · have HN : Hid (Rwk l (j + 2) R) := Lib.hid (Hz'.out.next Hx'.out Hy.out (by omega) (by omega) H3.out (by omega))
                go_wp2_with fail
                refine wp_region_mix (by kernel_rfl) (Cls (Abv wr)) [(0, 0), (1, 0), (2, 0), (3, 0), (4, 0), (5, 0), (6, 0), (7, 0), (8, 0), (9, 0), (10, 0), (11, 0), (12, 0), (13, 0), (14, 0), (15, 0), (16, 0), (17, 0), (18, 0), (19, 0), (20, 0), (21, 0), (22, 0), (23, 0), (24, 0), (25, 0), (26, 0), (27, 0), (28, 0), (29, 0), (30, 0), (31, 0), (32, 0), (33, 0), (34, 0), (35, 0), (36, 0), (37, 0), (38, 0), (39, 0), (40, 0)] (by kernel_rfl) (cls (Below.refl _ wr).drew) ?_
                repeat (refine mix0 rfl (fun K hK => ?_); go_simp; refine hK _ ?_; clear hK K)
                refine mixEnd ?_
                go_wp2
                go_roundw
                case rel => exact ⟨j + 2, by have := hj.out; omega, by have := hj.out; go_num, HN, Lib.hid Hb.out.drew⟩
                case measure => simp [intOf]; omega
          · have q3 : ((x.2.length : Int) != 512) = true := by simp; omega
            have hr : Hid (R = false) := Lib.hid (Hz.out.len Hx.out h3)
            clear h3
            go_wp2_with fail
            refine wp_region_mix (by kernel_rfl) (Cls (Abv wr)) [(0, 0), (1, 0), (2, 0), (3, 0), (4, 0), (5, 0), (6, 0), (7, 0), (8, 0), (9, 0), (10, 0), (11, 0), (12, 0), (13, 0), (14, 0), (15, 0), (16, 0), (17, 0), (18, 0), (19, 0), (20, 0), (21, 0), (22, 0), (23, 0), (24, 0), (25, 0), (26, 0), (27, 0), (28, 0), (29, 0), (30, 0), (31, 0), (32, 0), (33, 0), (34, 0), (35, 0), (36, 0), (37, 0), (38, 0), (39, 0), (40, 0)] (by kernel_rfl) (cls (Below.refl _ wr).drew) ?_
            repeat (refine mix0 rfl (fun K hK => ?_); go_simp; refine hK _ ?_; clear hK K)
            refine mixEnd ?_
            go_wp2
            go_ret
            exact ⟨ret_bool hr.out.symm, Hb.out.drew⟩
    · obtain rfl : k = n := by omega
      have hr : Hid (R = true) := Lib.hid (Hz.out.fin hlen.out.symm)
      go_wp2
      go_ret
      exact ⟨ret_bool hr.out.symm, Hb.out⟩
end Go.Proofs.YtgncmgchoogmpaaDoor
