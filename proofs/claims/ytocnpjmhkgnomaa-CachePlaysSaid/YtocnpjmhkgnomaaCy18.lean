/- What is dirty in a cache, and what is dropped, at this translation. -/
import Derived.Test.YtocnpjmhkgnomaaCx18
namespace Go.Proofs.Ytocnpjmhkgnomaa
open Go.RowKit Go.MapKept Go.Sort

theorem chInf18 : Inf 30 36 2 24 := by
  refine ⟨Try.underlying30, ?_⟩
  obtain ⟨i, hi, hz, hs, hb⟩ := info_parts (show (Try.prog.info? 36).map (fun i => (i.zero, i.size, i.bytes)) = some (some (.agg #[.int .i64 0, .string (str [])]), 2, 24) by kernel_rfl)
  exact ⟨i, _, hi, hz, hs, hb, rfl⟩
theorem chOne (w : World) (c : Ch) : IsG (w.alloc (.cells #[.int .i64 c.1, .string (str c.2)] 36)) 2 encC (some ⟨w.heap.size, 0, none⟩) 1 [c] :=
  IsG.one (by simp) (fun j u hj => match j, hj with
    | 0, hj => by simp [encC] at hj; subst hj; simp [go_sem]
    | 1, hj => by simp [encC] at hj; subst hj; simp [go_sem]
    | j + 2, hj => by simp [encC] at hj)
def dirtK (l : List Li) (ks : List Int) : List Ch := ks.filterMap fun k => if (kvOf l k).2 then some (k, (kvOf l k).1) else none
theorem dirtK_snoc (l : List Li) (t : List Int) (k : Int) : dirtK l (t ++ [k]) = if (kvOf l k).2 then dirtK l t ++ [(k, (kvOf l k).1)] else dirtK l t := by
  unfold dirtK
  rw [List.filterMap_append]
  cases h : (kvOf l k).2 <;> simp [h]
theorem dirtK_length (l : List Li) (t : List Int) : (dirtK l t).length ≤ t.length := List.length_filterMap_le _ _
theorem dirtK_keys {l : List Li} (h : Rise l) (a b : Int) : dirtK l (keysL l a b) = dirtyL l a b := by
  have key : ∀ t : List Li, (∀ x ∈ t, x ∈ l) → dirtK l ((t.filter fun x => inR a b x.1).map (·.1)) = (t.filter fun x => inR a b x.1 && x.2.2).map fun x => (x.1, x.2.1) := by
    intro t
    induction t with
    | nil => intro _; rfl
    | cons x t ih =>
      intro ht
      have h1 := ih fun y hy => ht y (by simp [hy])
      have h2 : kvOf l x.1 = x.2 := by rw [kvOf, look_mem h (ht x (by simp))]; rfl
      rw [List.filter_cons, List.filter_cons]
      cases hr : inR a b x.1 with
      | false => simpa using h1
      | true =>
        cases hd : x.2.2 with
        | false =>
          simp only [if_true, Bool.true_and, Bool.false_eq_true, if_false, List.map_cons]
          rw [← h1]
          unfold dirtK
          rw [List.filterMap_cons, h2, hd]
          rfl
        | true =>
          simp only [if_true, Bool.true_and, List.map_cons]
          rw [← h1]
          unfold dirtK
          rw [List.filterMap_cons, h2, hd]
          rfl
  exact key l fun _ h => h
set_option maxRecDepth 100000 in
theorem Dirty_nil (w : World) (x y : Int) :
    Calls Try.prog 21 #[.pointer none, .int .i64 x, .int .i64 y] w fun e w' => e = .returned (.slice none 0 0) ∧ w = w' := by
  go_enter Try.func21, Try.ntmps21
  go_wp2_with fail
  refine (within_nil _ x y).mono ?_
  rintro e w1 ⟨rfl, rfl⟩
  go_wp2_with fail
  refine wp_loop_rounds 1 ?_
  rw [rounds_succ]
  go_wp2
  go_ret
  exact ⟨rfl, rfl⟩
set_option maxRecDepth 100000 in
set_option maxHeartbeats 2000000 in
theorem Dirty_any {w : World} {b : Nat} {m : Option Nat} {l : List Li} (h : Ca w b m l) (x y : Int) (hn : l.length ≤ 1000) :
    Calls Try.prog 21 #[.pointer (some ⟨b, 0, none⟩), .int .i64 x, .int .i64 y] w fun e w' => ∃ A n c, e = .returned (.slice A n c) ∧ RG w' 2 encC (.slice A n c) (dirtyL l x y) ∧ (∀ g, blk (.slice A n c) = some g → w.heap.size ≤ g) ∧ Below w.heap.size w w' := by
  have H := Lib.hid h
  have hr := h.rise
  rw [← dirtK_keys hr]
  obtain ⟨ks, Hks⟩ : ∃ ks, Hid (keysL l x y = ks) := ⟨_, Lib.hid rfl⟩
  have Hkl : Hid (ks.length ≤ 1000) := Lib.hid (by rw [← Hks.out]; exact Nat.le_trans (keysL_length _ _ _) hn)
  have Hkw : Hid (∀ k ∈ ks, (Lit.int .i64 k).wf = true) := Lib.hid (fun k hk => by
    rw [← Hks.out, keysL, List.mem_map] at hk
    obtain ⟨z, hz, rfl⟩ := hk
    exact H.out.wf z (List.mem_filter.1 hz).1)
  rw [Hks.out]
  obtain ⟨B, HB⟩ : ∃ B, Hid (w.heap.size = B) := ⟨_, Lib.hid rfl⟩
  have Hlt := Lib.hid H.out.lt
  clear h hr
  go_enter Try.func21, Try.ntmps21
  go_wp2_with fail
  refine (within_any H.out x y hn).mono ?_
  rw [Hks.out]
  rintro e w1 ⟨A, n, c, rfl, hg, hA, hb⟩
  have HG := Lib.hid hg
  have Hb : Hid (Below B w w1) := Lib.hid (by rw [← HB.out]; exact hb)
  have C1 : Hid (Ca w1 b m l) := Lib.hid (H.out.below hb)
  have Hle : Hid (B ≤ w1.heap.size) := Lib.hid (by rw [← HB.out]; exact hb.size)
  have hnl : n = ks.length := hg.length.symm
  subst hnl
  have hsm : ks.length ≤ 1000 := Hkl.out
  clear hg hA hb
  go_wp2_with fail
  obtain ⟨B1, HB1⟩ : ∃ B, Hid (w1.heap.size = B) := ⟨_, Lib.hid rfl⟩
  go_loopw [7, 16] (fun v i wr => ∃ j : Nat, j ≤ ks.length ∧ i = .int .i64 j ∧ Hid (RG wr 2 encC v (dirtK l (ks.take j)) ∧ (∀ g, blk v = some g → B1 ≤ g) ∧ Below B1 w1 wr)) (fun _ i _ => ks.length - (intOf i).toNat)
  case atStart => exact ⟨0, Nat.zero_le _, rfl, Lib.hid ⟨RG.nil _ _ _, (fun g e => by cases e), by rw [← HB1.out]; exact Below.refl _ _⟩⟩
  case round =>
    obtain ⟨j, hj, rfl, HC⟩ := hrel
    obtain ⟨A2, c2, rfl⟩ := HC.out.1.shape
    have hdl := dirtK_length l (ks.take j)
    rw [List.length_take] at hdl
    obtain ⟨dn, Hdn⟩ : ∃ dn, Hid ((dirtK l (ks.take j)).length = dn) := ⟨_, Lib.hid rfl⟩
    rw [Hdn.out] at hdl HC ⊢
    by_cases hlt : j < ks.length
    · obtain ⟨k, Hk⟩ : ∃ k, Hid (ks[j]? = some k) := ⟨ks[j], Lib.hid (List.getElem?_eq_getElem hlt)⟩
      have hbr : Below w1.heap.size w1 wr := by rw [HB1.out]; exact HC.out.2.2
      obtain ⟨g, off, rfl, hgl, hc⟩ := (HG.out.below hbr).cells (by omega)
      have c0 := hc j k 0 _ Hk.out rfl
      rw [Nat.mul_one, Nat.add_zero] at c0
      have wf := Hkw.out k (List.mem_of_getElem? Hk.out)
      have Cr := C1.out.below hbr
      have cc := Cr.cell
      have hl1 := Cr.look1 wf
      have Hsn : Hid (ks.take (j + 1) = ks.take j ++ [k]) := Lib.hid (by
        obtain ⟨hjl, ej⟩ := List.getElem?_eq_some_iff.1 Hk.out
        rw [List.take_succ_eq_append_getElem hjl, ej])
      have Hst := Lib.hid (dirtK_snoc l (ks.take j) k)
      obtain ⟨z, Hz⟩ : ∃ z, Hid (kvOf l k = z) := ⟨_, Lib.hid rfl⟩
      obtain ⟨s, d⟩ := z
      rw [Hz.out] at hl1 Hst
      have hl2 : (Instr.lookup TM (.map m) (.int .i64 k) false).run Try.prog wr = .ok (.agg #[.string (str s), .bool d]) wr := hl1
      have Hbr := Lib.hid hbr
      clear hl1 hbr hc Cr
      cases d
      · have HE : Hid (dirtK l (ks.take (j + 1)) = dirtK l (ks.take j)) := Lib.hid (by rw [Hsn.out, Hst.out]; rfl)
        go_wp2
        go_roundw
        case rel => exact ⟨j + 1, by omega, by go_num, Lib.hid ⟨by rw [HE.out]; exact HC.out.1.below (balloc (Below.refl _ _) _), HC.out.2.1, HC.out.2.2.alloc (by rw [← HB1.out]; exact Hbr.out.size) _⟩⟩
        case measure => simp [intOf]; omega
      · have HE : Hid (dirtK l (ks.take (j + 1)) = dirtK l (ks.take j) ++ [(k, s)]) := Lib.hid (by rw [Hsn.out, Hst.out]; rfl)
        obtain ⟨W, HW⟩ : ∃ W, Hid ((wr.alloc (.cells #[.string (str s), .bool true] 59)).alloc (.cells #[.int .i64 k, .string (str s)] 36) = W) := ⟨_, Lib.hid rfl⟩
        obtain ⟨p, Hp⟩ : ∃ p, Hid (wr.heap.size + 1 = p) := ⟨_, Lib.hid rfl⟩
        have hbW : Below wr.heap.size wr W := by rw [← HW.out]; exact balloc (balloc (Below.refl _ _) _) _
        have hI : IsG W 2 encC (some ⟨p, 0, none⟩) 1 [(k, s)] := by
          rw [← HW.out, ← Hp.out]
          have := chOne (wr.alloc (.cells #[.string (str s), .bool true] 59)) (k, s)
          rw [show (wr.alloc (.cells #[.string (str s), .bool true] 59)).heap.size = wr.heap.size + 1 by simp] at this
          exact this
        obtain ⟨v2, w2, hr2, r2, a2⟩ := appG chInf18 encC_ok (HC.out.1.below hbW) (c := 1) hI (by rw [Hdn.out]; omega) (by decide) 30
        have HR2 := Lib.hid hr2
        have N2 : Hid (RG w2 2 encC v2 (dirtK l (ks.take (j + 1))) ∧ (∀ g, blk v2 = some g → B1 ≤ g) ∧ Below B1 w1 w2) := Lib.hid (by
          rw [HE.out]
          have hB : B1 ≤ wr.heap.size := by rw [← HB1.out]; exact Hbr.out.size
          refine ⟨r2, fun q e => ?_, ?_⟩
          · rcases a2.blk with e2 | ⟨q2, e2, hq2⟩
            · exact HC.out.2.1 q (e2 ▸ e)
            · rw [e2] at e
              obtain rfl := Option.some.inj e
              have := hbW.size
              omega
          · exact a2.mod.below (HC.out.2.2.trans (hbW.mono hB)) (Nat.le_trans hB hbW.size) HC.out.2.1)
        clear hbW hI hr2 r2 a2
        obtain ⟨A3, c3, rfl⟩ : ∃ A3 c3, v2 = .slice A3 (dn + 1) c3 := by
          obtain ⟨A3, c3, e⟩ := N2.out.1.shape
          exact ⟨A3, c3, by rw [e, HE.out, List.length_append, Hdn.out]; rfl⟩
        go_wp2_with (first | (at_builtin; rw [HW.out, Hp.out]; refine wpList_append_run rfl (.tmp 28) (.tmp 33) 30 rfl (by exact HR2.out) ?_) | fail)
        go_roundw
        case rel => exact ⟨j + 1, by omega, by go_num, N2⟩
        case measure => simp [intOf]; omega
    · obtain rfl : j = ks.length := by omega
      go_wp2
      go_ret
      have hC := HC.out
      rw [List.take_length] at hC
      rw [HB.out]
      refine ⟨A2, dn, c2, rfl, hC.1, fun g hg => Nat.le_trans Hle.out (by rw [HB1.out]; exact hC.2.1 g hg), Hb.out.trans (hC.2.2.mono (by rw [← HB1.out]; exact Hle.out))⟩
end Go.Proofs.Ytocnpjmhkgnomaa
