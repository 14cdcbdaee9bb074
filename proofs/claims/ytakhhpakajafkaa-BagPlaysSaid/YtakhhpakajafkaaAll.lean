/- All that wait. -/
import Derived.Test.YtakhhpakajafkaaParc
namespace Go.Proofs.Ytakhhpakajafkaa
open Go.RowKit Go.Shelf

attribute [local go_sem] Oper.semAt_some

section
variable {w : World} {b : Nat} {ρ : Nat → Role} {s : NS} {bv : Nat → Value}
theorem Nt.under {W W' : World} {n : Nat} (h : Nt W b ρ s bv) (hρ : ∀ g, ρ g ≠ .no → g < n) (m : Below n W W') : Nt W' b ρ s bv :=
  h.later (S := fun g => n ≤ g) ⟨m.os, m.tape, m.output, m.size, fun k _ hs => m.block k (by omega)⟩ fun g hg => by
    cases hr : ρ g with
    | no => rfl
    | _ => have := hρ g (by rw [hr]; intro e; cases e); omega
theorem Nt.aside {W W' : World} {B : Nat} (h : Nt W b ρ s bv) (hρ : ∀ g, ρ g ≠ .no → g < B) (m : Aside B W W') : Nt W' b ρ s bv := h.later m fun g hg => by
  cases hr : ρ g with
  | no => rfl
  | _ => have := hρ g (by rw [hr]; intro e; cases e); omega
/-- What is carried from round to round: what was collected, in a variable's block K. -/
structure Col (w : World) (b : Nat) (ρ : Nat → Role) (s : NS) (bv : Nat → Value) (K : Nat) (l : List Pcl) (v : Value) (W : World) : Prop where
  box : Boxed W K 27 v
  row : Ps K W v l
  net : Nt W b ρ s bv
  bel : Below K w W
  le : K ≤ w.heap.size
theorem Col.aside {K B : Nat} {l : List Pcl} {v : Value} {W W' : World} (h : Col w b ρ s bv K l v W) (hρ : ∀ g, ρ g ≠ .no → g < B) (hB : K ≤ B) (m : Aside B W W') : Col w b ρ s bv K l v W' :=
  ⟨boxed_aside m h.box, h.row.aside m, h.net.aside hρ m, below_aside h.bel m hB (Nat.le_trans h.le h.bel.size), h.le⟩
theorem Col.alloc {K : Nat} {l : List Pcl} {v : Value} {W : World} (h : Col w b ρ s bv K l v W) (hρ : ∀ g, ρ g ≠ .no → g < K) (o : Obj) : Col w b ρ s bv K l v (W.alloc o) :=
  h.aside (B := K) hρ (Nat.le_refl _) (aside_alloc _ _ _)
/-- One parcel more. -/
theorem Col.more {K : Nat} {l : List Pcl} {v v' : Value} {p : Pcl} {W w1 : World} (h : Col w b ρ s bv K l v W) (hρ : ∀ g, ρ g ≠ .no → g < K) {tmp : Obj}
    (hown : w1.ownsRow K 35 3 v' (l.length + 1) (pc l ++ pc1 p)) (hgrow : (W.alloc tmp).grownBy w1 v.ownBlock) :
    Boxed w1 K 27 v ∧ Col w b ρ s bv K (l ++ [p]) v' (w1.setCell ⟨K, 0, none⟩ v') ∧ KeepsOthers W (w1.setCell ⟨K, 0, none⟩ v') ∧
      ∀ X t u u', K < X → t ≠ 35 → Boxed2 W X t u u' → Boxed2 (w1.setCell ⟨K, 0, none⟩ v') X t u u' := by
  have hle : K ≤ W.heap.size := Nat.le_trans h.le h.bel.size
  obtain ⟨h1, h2, h3, h4, h5⟩ := h.box.appended (e := 35) (by decide) h.row hle (Nat.le_refl _) hown hgrow
  refine ⟨h1, ⟨h2, ?_, h.net.under hρ h5, h.bel.trans h5, h.le⟩, h4, fun X t u u' hX ht hb => ?_⟩
  · unfold Ps
    rw [List.length_append, pc_append, pc_one]
    exact h3
  · have hne := (hb.alloc tmp).not_row ht (World.ownsRow.alloc h.row tmp)
    exact ((hb.alloc tmp).kept (mod_grown hgrow) (fun e => hne e.symm)).kept (S := (· = K)) ((Mod.refl _ w1).set1 _) (by omega)
set_option maxRecDepth 100000 in
set_option maxHeartbeats 1000000 in
theorem All_in (h : Nt w b ρ s bv) :
    CallsIn Fence.wide 8 Try.prog 25 #[.pointer (some ⟨b, 0, none⟩)] w fun e w' =>
      ∃ v, e = .returned v ∧ Ps w.heap.size w' v (allN s 64) ∧ Below w.heap.size w w' := by
  obtain ⟨K, HK⟩ : ∃ K, Hid (w.heap.size = K) := ⟨_, Lib.hid rfl⟩
  obtain ⟨W1, HW1⟩ : ∃ W1, Hid (w.alloc (.cells #[.slice none 0 0] 27) = W1) := ⟨_, Lib.hid rfl⟩
  have Hb1 : Hid (Below w.heap.size w W1) := Lib.hid (by rw [← HW1.out]; exact (Below.refl _ _).alloc (Nat.le_refl _) _)
  have Hs1 : Hid (W1.heap.size = K + 1) := Lib.hid (by rw [← HW1.out, ← HK.out]; simp)
  have HbS : Hid (Boxed W1 K 27 (.slice none 0 0)) := Lib.hid (by rw [← HW1.out, ← HK.out]; exact Boxed.new w _ _)
  have HN1 := Lib.hid (h.later (Mod.of_below (S := fun _ => False) Hb1.out) (fun _ => False.elim))
  have Hρ : Hid (∀ g, ρ g ≠ .no → g < K) := Lib.hid (fun g hg => by rw [← HK.out]; exact h.top g hg)
  have hbl := h.lt
  have Hm := Lib.hid h.most
  have Hρ1 : Hid (∀ g, ρ g ≠ .no → g < W1.heap.size) := Lib.hid (fun g hg => by have := Hρ.out g hg; have := Hs1.out; omega)
  have HB1 : Hid (K ≤ W1.heap.size) := Lib.hid (by have := Hs1.out; omega)
  obtain ⟨i0, hi, hz0, hz1, hz2⟩ := info_parts infoP
  have Hi := Lib.hid hi
  have Hz0 := Lib.hid hz0
  have Hz1 := Lib.hid hz1
  have Hz2 := Lib.hid hz2
  have HC1 : Hid (Col w b ρ s bv K (allN s 0) (.slice none 0 0) W1) := Lib.hid ⟨HbS.out, Ps.nil _ _, HN1.out, by rw [← HK.out]; exact Hb1.out, by rw [HK.out]; exact Nat.le_refl _⟩
  clear h hi hz0 hz1 hz2
  refine callsIn_of_wp_marks Try.func25 rfl trivial ?_ rfl
  simp only [Try.ntmps25, List.size_toArray, List.length_cons, List.length_nil, Nat.reduceAdd, Nat.reduceSub, Array.replicate_succ, Array.replicate_zero, List.push_toArray, List.append_toArray, List.nil_append, List.cons_append]
  gi_wp2
  rw [HW1.out, HK.out]
  refine over_links rfl (by omega) rfl trivial rfl
    (fun k W => ∃ v, Col w b ρ s bv K (allN s k) v W)
    (fun _ _ _ => False) (fun k W W' ⟨v, h⟩ m => ⟨v, h.aside Hρ1.out HB1.out m⟩)
    (fun _ _ _ _ h _ => h.elim) ⟨_, HC1.out⟩
    (fun k a' W => ∃ X, K < X ∧ Boxed2 W X 72 (.int .i64 ((k : Int) / 8)) (.int .i64 ((k : Int) % 8)) ∧ a' = { tmps := #[.pointer (some ⟨b, 0, none⟩), undef, .slice none 0 0, .pointer (some ⟨K, 0, none⟩), .pointer (some ⟨X, 0, none⟩), .pointer (some ⟨b, k, none⟩), undef, undef, .pointer (some ⟨b, 0, none⟩), .func (.func 41) #[.pointer (some ⟨b, 0, none⟩)] #[], .agg #[.int .i64 ((k : Int) / 8), .int .i64 ((k : Int) % 8)], .pointer (some ⟨b, k, none⟩), undef, undef, undef, undef, undef, undef, undef, undef, undef, undef, undef, undef, undef, undef, undef, undef, undef, undef, undef], defers := [] }) (fun _ _ _ _ ⟨X, h1, h2, h3⟩ m => ⟨X, h1, h2.aside m, h3⟩)
    ?assign ?body ?done ?stop
  case assign =>
    rintro l k W K' hk ⟨v, hC⟩ hK
    simp only [encL]
    gi_wp2
    exact hK _ _ ((KeepsOthers.alloc _ _).from _) ⟨v, hC.alloc Hρ.out _⟩ ⟨W.heap.size, by have := hC.box.lt; omega, Boxed2.new W _ _ _, rfl⟩
  case body =>
    rintro l k a' W hk ⟨v, hC⟩ ⟨X, hX, hbX, rfl⟩
    have ck := hC.net.cell k hk
    obtain ⟨av, cap, hv⟩ := (hC.net.row k hk).slice
    rw [hv] at ck
    have Hv := Lib.hid hv
    have hml := Hm.out k
    have HC := Lib.hid hC
    have HbX := Lib.hid hbX
    clear hv hC hbX
    gi_wp2
    obtain ⟨wo, rfl⟩ : ∃ wo : World, wo = W := ⟨_, rfl⟩
    gi_loopw [16] (fun i wr => ∃ j v, j ≤ (s k).length ∧ i = .int .i64 ((j : Nat) : Int) ∧ Hid (Col w b ρ s bv K (allN s k ++ (onK s k).take j) v wr) ∧ Hid (Boxed2 wr X 72 (.int .i64 ((k : Int) / 8)) (.int .i64 ((k : Int) % 8))) ∧ Hid (KeepsFrom W1.heap.size wo wr)) (fun i _ => (s k).length - (intOf i).toNat)
    case atStart => exact ⟨0, v, Nat.zero_le _, rfl, Lib.hid (by rw [List.take_zero, List.append_nil]; exact HC.out), HbX, Lib.hid (KeepsFrom.refl _ _)⟩
    case round =>
      obtain ⟨j, v1, hj, rfl, HC1, HbX1, HKp⟩ := hrel
      by_cases hlt : j < (s k).length
      · obtain ⟨g, off, cap1, hv1, hcell⟩ := (HC1.out.net.row k hk).get hlt
        rw [Hv.out] at hv1
        injection hv1 with ea _ ec
        subst ea ec
        have hlen : (allN s k ++ (onK s k).take j).length ≤ 12800 := by
          have := allN_le Hm.out k
          simp [onK_length]
          omega
        obtain ⟨L, HL⟩ : ∃ L, Hid (allN s k ++ (onK s k).take j = L) := ⟨_, Lib.hid rfl⟩
        rw [HL.out] at HC1 hlen
        obtain ⟨av1, cap2, hv2⟩ := HC1.out.row.slice
        subst hv2
        have cK := HC1.out.box.cell
        have fK := HC1.out.box.frozen
        have cX0 := HbX1.out.cell0
        have cX1 := HbX1.out.cell1
        have Hlen := Lib.hid hlen
        obtain ⟨q, Hq⟩ : ∃ q : Pcl, Hid (q = ((k : Int) / 8, (k : Int) % 8, (s k)[j])) := ⟨_, Lib.hid rfl⟩
        have Hnext : Hid ((onK s k).take (j + 1) = (onK s k).take j ++ [q]) := Lib.hid (by
          rw [List.take_succ_eq_append_getElem (by rw [onK_length]; exact hlt), Hq.out]
          simp [onK])
        have Hrow := Lib.hid (World.ownsRow.alloc HC1.out.row (.cells #[.int .i64 ((k : Int) / 8), .int .i64 ((k : Int) % 8), .string (str (s k)[j])] 35))
        have Hle : Hid (K ≤ (wr.alloc (.cells #[.int .i64 ((k : Int) / 8), .int .i64 ((k : Int) % 8), .string (str (s k)[j])] 35)).heap.size) := Lib.hid (by have := HC1.out.box.lt; simp; omega)
        have Hc1 : Hid (∀ i u, (pc1 ((k : Int) / 8, (k : Int) % 8, (s k)[j]))[i]? = some u → (wr.alloc (.cells #[.int .i64 ((k : Int) / 8), .int .i64 ((k : Int) % 8), .string (str (s k)[j])] 35)).cell? ((⟨wr.heap.size, 0, none⟩ : Addr).add i) = some u) := Lib.hid fun i u hu => by
          match i, hu with
          | 0, hu => simp [pc1] at hu; subst hu; simp [Addr.add, go_sem]
          | 1, hu => simp [pc1] at hu; subst hu; simp [Addr.add, go_sem]
          | 2, hu => simp [pc1] at hu; subst hu; simp [Addr.add, go_sem]
          | i + 3, hu => simp [pc1] at hu
        have Hc2 : Hid (∀ u ∈ pc1 ((k : Int) / 8, (k : Int) % 8, (s k)[j]), u.oneCell' = true) := Lib.hid fun u hu => by
          simp [pc1] at hu
          rcases hu with rfl | rfl | rfl <;> rfl
        have Hc3 : Hid (L.length + 1 ≤ maxLen) := Lib.hid (by unfold maxLen; omega)
        have Hc4 : Hid ((L.length + 1) * 32 ≤ 140737488355328) := Lib.hid (by omega)
        clear hlen
        gi_wp2_with (refine wpListIn_append_own _ rfl (.tmp 20) (.tmp 27) 27 rfl K 35 i0 (.agg #[.int .i64 0, .int .i64 0, .string ByteArray.empty]) 3 32 Try.underlying27 Hi.out Hz0.out Hz1.out Hz2.out rfl (by decide) (.slice av1 L.length cap2) _ _ rfl Hrow.out ⟨wr.heap.size, 0, none⟩ 1 1 (pc1 ((k : Int) / 8, (k : Int) % 8, (s k)[j])) rfl rfl Hc1.out Hc2.out Hc3.out Hc4.out Hle.out ?_; intro v' w1 hown' hgrow _; obtain ⟨g', cap', rfl⟩ := ownsRow_succ hown'; have hmore := HC1.out.more (p := ((k : Int) / 8, (k : Int) % 8, (s k)[j])) Hρ.out hown' hgrow; have cK1 := hmore.1.cell; have fK1 := hmore.1.frozen; have Hmore := Lib.hid hmore; clear hown' hgrow hmore)
        go_roundw
        case rel => exact ⟨j + 1, _, by omega, by go_num, Lib.hid (by rw [Hnext.out, ← List.append_assoc, HL.out, Hq.out]; exact Hmore.out.2.1), Lib.hid (Hmore.out.2.2.2 X _ _ _ hX (by decide) HbX1.out), Lib.hid (HKp.out.trans (Hmore.out.2.2.1.from _))⟩
        case measure => simp [intOf]; omega
      · obtain rfl : j = (s k).length := by omega
        gi_wp2
        refine ⟨HKp.out, v1, ?_⟩
        have h := HC1.out
        rw [List.take_of_length_le (by rw [onK_length]; exact Nat.le_refl _)] at h
        exact h
  case done =>
    rintro D W hD ⟨v, hC⟩ hK
    have cS := hC.box.cell
    obtain ⟨av, cap, hv⟩ := hC.row.slice
    subst hv
    have HC := Lib.hid hC
    clear hC
    gi_wp2
    refine ⟨by simp, .inl ⟨_, _, rfl, run_takeDeferred hK, ?_⟩⟩
    have hput := aside_put (B := w.heap.size) (W := W) (l := D) (by have := HK.out; have := Hs1.out; omega) hK rfl (.deferred none)
    refine ⟨.slice av (allN s 64).length cap, ?_, _, rfl, by rw [HK.out]; exact HC.out.row.aside hput, ?_⟩
    · simp [results, Try.f25, go_sem]
    · rw [HK.out]
      exact below_aside HC.out.bel hput (by rw [HK.out]; exact Nat.le_refl _) (Nat.le_trans HC.out.le HC.out.bel.size)
  case stop => exact fun _ _ _ _ _ _ h => h.elim
/-- A slice of parcels comes back, in new blocks. -/
def Parcels (w : World) (l : List Pcl) (e : Ending) (w' : World) : Prop := ∃ v, e = .returned v ∧ Ps w.heap.size w' v l ∧ Below w.heap.size w w'
theorem All_any (h : IsN w b ρ s) :
    Calls Try.prog 25 #[.pointer (some ⟨b, 0, none⟩)] w (Parcels w (allN s 64)) := by
  obtain ⟨bv, h⟩ := h
  exact callsIn_wide.1 (All_in h)
end
end Go.Proofs.Ytakhhpakajafkaa
