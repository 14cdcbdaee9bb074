
/- Whether members rise; the least one. -/
import Derived.Test.YtnbhjehaecifcaaAsk
namespace Go.Proofs.Ytnbhjehaecifcaa
open Go.RowKit

def ltM (a b : Mb) : Bool := decide (ordI a b < 0)
def risB : List Mb → Bool
  | a :: b :: t => ltM a b && risB (b :: t)
  | _ => true
theorem ris_drop {l : List Mb} {j : Nat} {a b : Mb} (ha : l[j]? = some a) (hb : l[j + 1]? = some b) : risB (l.drop j) = (ltM a b && risB (l.drop (j + 1))) := by
  obtain ⟨h1, e1⟩ := List.getElem?_eq_some_iff.1 ha
  obtain ⟨h2, e2⟩ := List.getElem?_eq_some_iff.1 hb
  rw [List.drop_eq_getElem_cons h1, List.drop_eq_getElem_cons h2, e1, e2]
  rfl
theorem ris_end {l : List Mb} {j : Nat} (h : l.length ≤ j + 1) : risB (l.drop j) = true := by
  have : (l.drop j).length ≤ 1 := by rw [List.length_drop]; omega
  match hd : l.drop j with
  | [] => rfl
  | [_] => rfl
  | a :: b :: t => rw [hd] at this; simp at this
set_option maxHeartbeats 2000000 in
theorem rising_any (w : World) (A : Option Addr) (n c : Nat) (l : List Mb) (h : IsL w A n c l) :
    Calls Try.prog 52 #[.slice A n c] w fun e w' => e = .returned (.bool (risB l)) ∧ Below w.heap.size w w' := by
  have hn := h.small
  have Hh := Lib.hid h
  clear h
  go_enter Try.func52, Try.ntmps52
  go_wp2
  go_loopw [3] (fun i wr => ∃ j : Nat, i = .int .i64 ((j : Int) + 1) ∧ (j = 0 ∨ j + 1 ≤ n) ∧ Hid (risB l = risB (l.drop j)) ∧ Hid (Below w.heap.size w wr)) (fun i _ => n - (intOf i).toNat)
  case atStart => exact ⟨0, rfl, .inl rfl, Lib.hid rfl, Lib.hid (Below.refl _ _)⟩
  case round =>
    obtain ⟨j, rfl, hj, HR, HB⟩ := hrel
    by_cases hlt : j + 1 < n
    · have hd : decide ((j : Int) + 1 < (n : Int)) = true := by simp; omega
      obtain ⟨g, off, rfl, hg, hc⟩ := (Hh.out.below HB.out).cells (by omega)
      obtain ⟨a, ha⟩ : ∃ a, l[j]? = some a := ⟨_, List.getElem?_eq_getElem (by rw [Hh.out.length]; omega)⟩
      obtain ⟨b, hb⟩ : ∃ b, l[j + 1]? = some b := ⟨_, List.getElem?_eq_getElem (by rw [Hh.out.length]; omega)⟩
      have Hr := Lib.hid (ris_drop ha hb)
      have k0 : ∀ y : In (Abv wr), y.u.cell? ⟨g, off + j * 3, none⟩ = some (.int .i64 a.1) := fun y => (y.is.cell (p := ⟨g, off + j * 3, none⟩) hg).trans (hc j a ha).1
      have k1 : ∀ y : In (Abv wr), y.u.cell? ⟨g, off + j * 3 + 1, none⟩ = some (.int .i64 a.2.1) := fun y => (y.is.cell (p := ⟨g, off + j * 3 + 1, none⟩) hg).trans (hc j a ha).2.1
      have k2 : ∀ y : In (Abv wr), y.u.cell? ⟨g, off + j * 3 + 2, none⟩ = some (.bool a.2.2) := fun y => (y.is.cell (p := ⟨g, off + j * 3 + 2, none⟩) hg).trans (hc j a ha).2.2
      have m0 : ∀ y : In (Abv wr), y.u.cell? ⟨g, off + (j + 1) * 3, none⟩ = some (.int .i64 b.1) := fun y => (y.is.cell (p := ⟨g, off + (j + 1) * 3, none⟩) hg).trans (hc (j + 1) b hb).1
      have m1 : ∀ y : In (Abv wr), y.u.cell? ⟨g, off + (j + 1) * 3 + 1, none⟩ = some (.int .i64 b.2.1) := fun y => (y.is.cell (p := ⟨g, off + (j + 1) * 3 + 1, none⟩) hg).trans (hc (j + 1) b hb).2.1
      have m2 : ∀ y : In (Abv wr), y.u.cell? ⟨g, off + (j + 1) * 3 + 2, none⟩ = some (.bool b.2.2) := fun y => (y.is.cell (p := ⟨g, off + (j + 1) * 3 + 2, none⟩) hg).trans (hc (j + 1) b hb).2.2
      have i1 : IntKind.i64.wrap (j : Int) = (j : Int) := IntWalk.i64_in _ (by omega)
      have i2 : (0 : Int) ≤ (j : Int) + 1 := by omega
      have i3 : ((j : Int) + 1).toNat = j + 1 := by omega
      have i4 : (j : Int) < (n : Int) := by omega
      have i5 : (j : Int) + 1 < (n : Int) := by omega
      clear hc ha hb
      go_wp2
      refine wp_region_mix (by kernel_rfl) (Cls (Abv wr)) [(0, 0), (1, 0), (2, 0), (3, 0), (4, 0), (5, 0), (6, 0), (7, 0), (8, 0), (9, 1), (10, 0)] (by kernel_rfl) (cls (Below.refl _ _).drew) ?_
      repeat (refine mix0 rfl (fun K hK => ?_); go_simp; refine hK _ ?_; clear hK K)
      refine mix1 rfl (fun K hK => ?_)
      go_simp
      refine (order_any a b _).mono ?_
      rintro e w2 ⟨rfl, hb2⟩
      have Hb2 : Hid (Below wr.heap.size wr w2) := Lib.hid ((Below.refl _ _).drew.trans hb2)
      clear hb2
      refine ⟨_, rfl, hK _ _ (cls Hb2.out) ?_⟩
      clear hK K
      have HB2 : Hid (Below w.heap.size w w2) := Lib.hid (bnext HB.out Hb2.out)
      by_cases ho : ordI a b < 0
      · have ho' : decide (0 ≤ ordI a b) = false := by simpa using ho
        have HR2 : Hid (risB l = risB (l.drop (j + 1))) := Lib.hid (by rw [HR.out, Hr.out]; simp [ltM, ho])
        clear ho
        repeat (refine mix0 rfl (fun K hK => ?_); go_simp; refine hK _ ?_; clear hK K)
        refine mixEnd ?_
        clear k0 k1 k2 m0 m1 m2 i1 i2 i3 i4 i5
        go_wp2
        go_roundw
        case rel => exact ⟨j + 1, by go_num, .inr (by omega), HR2, HB2⟩
        case measure => simp [intOf]; omega
      · have ho' : decide (0 ≤ ordI a b) = true := by simpa using ho
        have HR2 : Hid (risB l = false) := Lib.hid (by rw [HR.out, Hr.out]; simp [ltM, ho])
        clear ho
        repeat (refine mix0 rfl (fun K hK => ?_); go_simp; refine hK _ ?_; clear hK K)
        refine mixEnd ?_
        clear k0 k1 k2 m0 m1 m2 i1 i2 i3 i4 i5
        go_wp2
        go_ret
        exact ⟨ret_bool HR2.out.symm, HB2.out⟩
    · have hd : decide ((j : Int) + 1 < (n : Int)) = false := by simp; omega
      have HR2 : Hid (risB l = true) := Lib.hid (by rw [HR.out]; exact ris_end (by rw [Hh.out.length]; omega))
      go_wp2
      go_ret
      exact ⟨ret_bool HR2.out.symm, HB.out⟩
theorem BoxM.set {w : World} {b : Nat} {m : Mb} (h : BoxM w b m) (m' : Mb) : BoxM (((w.setCell ⟨b, 0, none⟩ (.int .i64 m'.1)).setCell ⟨b, 1, none⟩ (.int .i64 m'.2.1)).setCell ⟨b, 2, none⟩ (.bool m'.2.2)) b m' := by
  have hs : ∀ (W : World) (o : Nat) (y : Value) (c : Array Value) (t : TypeId), W.heap[b]? = some (.cells c t (0, 0)) → (W.setCell ⟨b, o, none⟩ y).heap[b]? = some (.cells (c.setIfInBounds o y) t (0, 0)) := by
    intro W o y c t hc
    obtain ⟨hlt, hk⟩ := Array.getElem?_eq_some_iff.1 hc
    show (W.heap.modify b _)[b]? = _
    rw [Array.getElem?_eq_getElem (by rw [Array.size_modify]; exact hlt), Array.getElem_modify_self, hk]
    rfl
  exact ⟨hs _ 2 _ _ _ (hs _ 1 _ _ _ (hs _ 0 _ _ _ h.blk))⟩
/-- The least one, by order. -/
def lessM (m x : Mb) : Mb := if ordI x m < 0 then x else m
def minM : List Mb → Mb
  | [] => (0, 0, false)
  | a :: t => t.foldl lessM a
end Go.Proofs.Ytnbhjehaecifcaa
