/- A folder's list as bytes, at this translation. -/
import Derived.Test.YtnoidhfhnaemgaaDoorBp15
import Derived.Test.YtnoidhfhnaemgaaDoorPack
namespace Go.Proofs.YtnoidhfhnaemgaaDoor
open Go.RowKit

/-- The last name so far lies in a cell of its own. -/
structure LastAt (u : World) (q : Nat) (s : List UInt8) : Prop where
  cell : u.cell? ⟨q, 0, none⟩ = some (.string (str s))
  soft : u.frozen? ⟨q, 0, none⟩ = false
theorem LastAt.below {u u' : World} {q : Nat} {s : List UInt8} (h : LastAt u q s) (b : Below u.heap.size u u') : LastAt u' q s :=
  ⟨(b.cell (p := ⟨q, 0, none⟩) (lt_of_cell h.cell)).trans h.cell, ((Mod.of_below (S := fun _ => False) b).frozen (p := ⟨q, 0, none⟩) (lt_of_cell h.cell) id).trans h.soft⟩
set_option maxRecDepth 100000 in
set_option maxHeartbeats 8000000 in
theorem right1_any (z : Ent) (q : Nat) (s : List UInt8) (u : World) (h : LastAt u q s) :
    Calls Tryd.prog 56 #[.agg #[.string (str z.1), .int .i64 z.2], .pointer (some ⟨q, 0, none⟩)] u fun e u' => e = .returned (.bool (wrongE s z)) ∧ LastAt u' q z.1 ∧ Mod (· = q) u u' := by
  obtain ⟨R, HR⟩ : ∃ b, Hid (wrongE s z = b) := ⟨_, Lib.hid rfl⟩
  rw [HR.out]
  obtain ⟨n, x⟩ := z
  obtain ⟨W, HW⟩ : ∃ W, Hid (u.alloc (.cells #[.string (str n), .int .i64 x] 44) = W) := ⟨_, Lib.hid rfl⟩
  obtain ⟨p, Hp⟩ : ∃ p, Hid (u.heap.size = p) := ⟨_, Lib.hid rfl⟩
  have hql : q < u.heap.size := lt_of_cell h.cell
  have HL : Hid (W.cell? ⟨p, 0, none⟩ = some (.string (str n)) ∧ W.cell? ⟨p, 1, none⟩ = some (.int .i64 x) ∧ LastAt W q s ∧ Below u.heap.size u W) := Lib.hid (by
    have b : Below u.heap.size u W := by rw [← HW.out]; exact balloc (Below.refl _ _) _
    refine ⟨?_, ?_, h.below b, b⟩ <;> (rw [← HW.out, ← Hp.out]; go_simp))
  have hqp : q ≠ p := by have := Hp.out; omega
  go_enter Tryd.func56, Tryd.ntmps56
  obtain ⟨b, Hb⟩ : ∃ b, Hid (nameB n = b) := ⟨_, Lib.hid rfl⟩
  have fin : ∀ w1 : World, Hid (Below W.heap.size W w1) → Hid (w1.cell? ⟨p, 0, none⟩ = some (.string (str n)) ∧ w1.cell? ⟨p, 1, none⟩ = some (.int .i64 x) ∧ LastAt w1 q s ∧ LastAt (w1.setCell ⟨q, 0, none⟩ (.string (str n))) q n ∧ Mod (· = q) u (w1.setCell ⟨q, 0, none⟩ (.string (str n)))) := fun w1 B1 => Lib.hid (by
    have c0 := (B1.out.cell (p := ⟨p, 0, none⟩) (lt_of_cell HL.out.1)).trans HL.out.1
    have c1 := (B1.out.cell (p := ⟨p, 1, none⟩) (lt_of_cell HL.out.2.1)).trans HL.out.2.1
    have l1 := HL.out.2.2.1.below B1.out
    have m : Mod (· = q) u w1 := Mod.of_below (bnext HL.out.2.2.2 B1.out)
    exact ⟨c0, c1, l1, ⟨set_same l1.cell, set_frozen l1.soft⟩, m.set1 (o := 0) (.string (str n))⟩)
  go_wp2_with fail
  rw [HW.out, Hp.out]
  refine (Name_any n _).mono ?_
  rw [Hb.out]
  rintro e w1 ⟨rfl, b1⟩
  have F := fin w1 (Lib.hid b1)
  obtain ⟨c0, c1, l1, _, _⟩ := F.out
  have k1 := l1.cell
  have k2 := l1.soft
  clear b1 l1 fin hql hqp
  cases b with
  | false =>
    obtain rfl : R = true := by rw [← HR.out, wrongE, Hb.out]; rfl
    go_wp2_with fail
    go_ret
    exact ⟨rfl, F.out.2.2.2.1, F.out.2.2.2.2⟩
  | true =>
    cases hle : (Op.bytesLess n s || n == s) with
    | true =>
      obtain rfl : R = true := by rw [← HR.out, wrongE, Hb.out, leB, hle]; rfl
      go_wp2_with fail
      go_ret
      exact ⟨rfl, F.out.2.2.2.1, F.out.2.2.2.2⟩
    | false =>
      by_cases h0 : x < 0
      · obtain rfl : R = true := by rw [← HR.out, wrongE, Hb.out, leB, hle]; simp [h0]
        go_wp2_with fail
        go_ret
        exact ⟨rfl, F.out.2.2.2.1, F.out.2.2.2.2⟩
      · by_cases h1 : 65536 ≤ x
        · obtain rfl : R = true := by rw [← HR.out, wrongE, Hb.out, leB, hle]; simp [h1]
          go_wp2_with fail
          go_ret
          exact ⟨rfl, F.out.2.2.2.1, F.out.2.2.2.2⟩
        · obtain rfl : R = false := by rw [← HR.out, wrongE, Hb.out, leB, hle]; simp [h0, h1]
          go_wp2_with fail
          go_ret
          exact ⟨by first | rfl | simp [h0, h1], F.out.2.2.2.1, F.out.2.2.2.2⟩
theorem lastN_succ {l : List Ent} {j : Nat} {z : Ent} (h : l[j]? = some z) : lastN l (j + 1) = z.1 := by rw [lastN, getD_of h]
set_option maxRecDepth 100000 in
set_option maxHeartbeats 8000000 in
theorem right_any (A : Option Addr) (n c : Nat) (l : List Ent) (w : World) (hl : IsG w 2 encN A n l) :
    Calls Tryd.prog 34 #[.slice A n c] w fun e w' => e = .returned (.bool (rightN l)) ∧ Below w.heap.size w w' := by
  have Hl := Lib.hid hl
  have hlen := hl.length
  clear hl
  obtain ⟨W, HW⟩ : ∃ W, Hid (w.alloc (.cells #[.string (str [])] 9) = W) := ⟨_, Lib.hid rfl⟩
  obtain ⟨q, Hq⟩ : ∃ p, Hid (w.heap.size = p) := ⟨_, Lib.hid rfl⟩
  have HL : Hid (LastAt W q [] ∧ Below w.heap.size w W) := Lib.hid (by
    have b : Below w.heap.size w W := by rw [← HW.out]; exact balloc (Below.refl _ _) _
    refine ⟨⟨?_, ?_⟩, b⟩ <;> (rw [← HW.out, ← Hq.out]; go_simp))
  have HC : Hid (ClosE w W l 56 (.pointer (some ⟨q, 0, none⟩)) (fun j u => LastAt u q (lastN l j) ∧ Below w.heap.size w u) (wrongN l)) := Lib.hid (by
    refine ⟨fun _ _ => rfl, ⟨HL.out.1, HL.out.2⟩, fun _ _ h => h.2, fun _ _ _ h b => ⟨h.1.below b, bnext h.2 b⟩, fun j u z h hz => ?_⟩
    refine (right1_any z q (lastN l j) u h.1).mono ?_
    rintro e u' ⟨rfl, h1, h2⟩
    refine ⟨by rw [wrongN, getD_of hz], by rw [lastN_succ hz]; exact h1, h2.below h.2 h.2.size (fun i hi => ?_)⟩
    subst hi
    rw [Hq.out]
    exact Nat.le_refl _)
  go_enter Tryd.func34, Tryd.ntmps34
  go_wp2_with fail
  rw [HW.out, Hq.out]
  refine (FindE_any w W A n c l Hl.out _ _ _ _ HC.out).mono ?_
  rintro e w1 ⟨z, rfl, hz, hno, hyes, i, hi⟩
  have B1 := Lib.hid hi.2
  have HR : Hid ((z : Int) = (n : Int) ↔ rightN l = true) := Lib.hid (by
    rw [rightN_iff]
    constructor
    · intro e j hj
      exact hno j (by omega)
    · intro h
      rcases Nat.lt_or_ge z n with h1 | h1
      · have := h z (by omega)
        rw [hyes h1] at this
        cases this
      · omega)
  clear hi hno hyes
  by_cases he : (z : Int) = (n : Int)
  · have Hr : Hid (rightN l = true) := Lib.hid (HR.out.1 he)
    go_wp2_with fail
    go_ret
    exact ⟨ret_bool (by simp [Hr.out]), B1.out⟩
  · have Hr : Hid (rightN l = false) := Lib.hid (by
      cases h : rightN l with
      | false => rfl
      | true => exact absurd (HR.out.2 h) he)
    go_wp2_with fail
    go_ret
    exact ⟨ret_bool (by simp [Hr.out, he]), B1.out⟩
theorem t_two (w : World) (x y : List UInt8) (ty : TypeId) : IsG (w.alloc (.cells #[.string (str x), .string (str y)] ty)) 1 encT (some ⟨w.heap.size, 0, none⟩) 2 [x, y] := by
  refine ⟨rfl, by decide, fun _ => ⟨_, 0, rfl, by simp, fun i a j u hi hj => ?_⟩⟩
  match i, j, hi, hj with
  | 0, 0, hi, hj => simp at hi; subst hi; simp [encT] at hj; subst hj; simp [go_sem]
  | 1, 0, hi, hj => simp at hi; subst hi; simp [encT] at hj; subst hj; simp [go_sem]
  | i + 2, _, hi, _ => simp at hi
  | _, j + 1, _, hj => simp [encT] at hj
theorem join_none : ∀ P : List (List UInt8), Lib.join P [] = P.flatten
  | [] => rfl
  | x :: r => by
    rw [Lib.join_cons, Lib.joinTail, List.flatten_cons]
    congr 1
    simp
theorem JoinT_any (A : Option Addr) (n c : Nat) (P : List (List UInt8)) (w : World) (h : RG w 1 encT (.slice A n c) P) (hP : P.length ≤ 100000) (hl : P.flatten.length ≤ 100000000) :
    Calls Tryd.prog 37 #[.slice A n c, .string ⟨#[]⟩] w fun e w' => e = .returned (.string (str P.flatten)) ∧ Below w.heap.size w w' := by
  obtain ⟨hi, hnc, _⟩ := h.is encT_ok
  have hlen := hi.length
  rcases Nat.eq_zero_or_pos n with h0 | h0
  · subst h0
    obtain rfl := List.eq_nil_of_length_eq_zero hlen
    refine (Tryd.strings_Join_none A c ⟨#[]⟩ w).mono ?_
    rintro e w1 ⟨rfl, rfl⟩
    exact ⟨rfl, Below.refl _ _⟩
  · obtain ⟨g, off, rfl, hg, hc⟩ := hi.cells h0
    have hm : (P.map str).map (·.data.toList) = P := by
      rw [List.map_map, show ((fun x : ByteArray => x.data.toList) ∘ str) = id from funext fun x => by simp [str], List.map_id]
    have hj : Lib.join P [] = P.flatten := join_none P
    have hn : n = (P.map str).length := by rw [List.length_map]; exact hlen.symm
    have h1 := Tryd.strings_Join g off c (P.map str) ⟨#[]⟩ w (fun j x hx => by
      rw [List.getElem?_map] at hx
      cases hp : P[j]? with
      | none => rw [hp] at hx; cases hx
      | some y =>
        rw [hp] at hx
        obtain rfl := Option.some.inj hx
        have := hc j y 0 _ hp rfl
        rwa [Nat.mul_one, Nat.add_zero] at this) hg (by rw [List.length_map]; omega) (by rw [← hn]; exact hnc) (by
      rw [hm]
      show (Lib.join P []).length ≤ _
      rw [hj]; omega)
    rw [← hn, hm] at h1
    refine h1.mono ?_
    rintro e w1 ⟨rfl, hb⟩
    refine ⟨?_, hb⟩
    show Ending.returned (.string ⟨(Lib.join P []).toArray⟩) = _
    rw [hj]
    rfl
set_option maxRecDepth 100000 in
set_option maxHeartbeats 8000000 in
theorem Bytes_any (A : Option Addr) (n c : Nat) (l : List Ent) (w : World) (hl : IsG w 2 encN A n l) (hn : n ≤ 40000) :
    Calls Tryd.prog 20 #[.slice A n c] w fun e w' => e = .returned (.tuple #[.string (str (bytesV l)), .int .i64 (bytesW l)]) ∧ Below w.heap.size w w' := by
  have Hl := Lib.hid hl
  have hlen := hl.length
  clear hl
  obtain ⟨R, HR⟩ : ∃ b, Hid (rightN l = b) := ⟨_, Lib.hid rfl⟩
  have HV : Hid (bytesV l = (if R then bytesN l else []) ∧ bytesW l = if R then 0 else 1) := Lib.hid (by rw [bytesV, bytesW, HR.out]; exact ⟨rfl, rfl⟩)
  rw [HV.out.1, HV.out.2]
  clear HV
  go_enter Tryd.func20, Tryd.ntmps20
  go_wp2_with fail
  refine (right_any A n c l w Hl.out).mono ?_
  rw [HR.out]
  rintro e w1 ⟨rfl, b1⟩
  have B1 := Lib.hid b1
  clear b1
  cases R with
  | false =>
    go_wp2_with fail
    go_ret2
    exact ⟨rfl, B1.out⟩
  | true =>
    have HE := Lib.hid (fun e he => right_ent HR.out (e := e) he)
    have HS : Hid ((bytesN l).length ≤ 36 * n) := Lib.hid (by rw [bytesN_len, ← hlen]; exact right_size HR.out)
    go_wp2_with fail
    go_loopw [4, 14] (fun v i wr => ∃ j : Nat, j ≤ n ∧ i = .int .i64 j ∧ Hid (RG wr 1 encT v (partsN (l.take j)) ∧ (∀ g, blk v = some g → w.heap.size ≤ g) ∧ Below w.heap.size w wr)) (fun _ i _ => n - (intOf i).toNat)
    case atStart => exact ⟨0, Nat.zero_le _, rfl, Lib.hid ⟨RG.nil _ _ _, (fun g e => by cases e), B1.out⟩⟩
    case round =>
      obtain ⟨j, hj, rfl, HJ⟩ := hrel
      obtain ⟨A2, c2, rfl⟩ := HJ.out.1.shape
      obtain ⟨pn, Hpn⟩ : ∃ x, Hid ((partsN (l.take j)).length = x) := ⟨_, Lib.hid rfl⟩
      have hpn : pn ≤ 2 * n := by rw [← Hpn.out, partsN_len, List.length_take]; omega
      rw [Hpn.out] at HJ ⊢
      by_cases hlt : j < n
      · have hltI : (j : Int) < (n : Int) := by omega
        obtain ⟨⟨s, x⟩, Hz⟩ : ∃ z, Hid (l[j]? = some z) := ⟨l[j]'(by omega), Lib.hid (List.getElem?_eq_getElem _)⟩
        obtain ⟨g, off, rfl, hg, e0, e1⟩ := (Hl.out.below HJ.out.2.2).ent Hz.out
        obtain ⟨hs1, hx0, hx1⟩ : nameB s = true ∧ 0 ≤ x ∧ x < 65536 := HE.out _ (List.mem_of_getElem? Hz.out)
        have hs2 := (name_some hs1).2
        have HT : Hid (textS s = be 2 s.length ++ s) := Lib.hid (by rw [textS, if_pos (by omega)])
        have hcv : IntKind.u32.wrap x = x := IntWalk.u32_in _ (by omega)
        obtain ⟨t1, Ht1⟩ : ∃ t, Hid (be 2 s.length ++ s = t) := ⟨_, Lib.hid rfl⟩
        obtain ⟨t2, Ht2⟩ : ∃ t, Hid (be 4 x.toNat = t) := ⟨_, Lib.hid rfl⟩
        have Hst : Hid (partsN (l.take (j + 1)) = partsN (l.take j) ++ [t1, t2]) := Lib.hid (by rw [partsN_step Hz.out, partsE, Ht1.out, Ht2.out])
        rw [Ht1.out] at HT
        obtain ⟨W, HW⟩ : ∃ W, Hid (wr.alloc (.cells #[.string (str s), .int .i64 x] 44) = W) := ⟨_, Lib.hid rfl⟩
        obtain ⟨p, Hp⟩ : ∃ p, Hid (wr.heap.size = p) := ⟨_, Lib.hid rfl⟩
        have WL : Hid (W.cell? ⟨p, 0, none⟩ = some (.string (str s)) ∧ W.cell? ⟨p, 1, none⟩ = some (.int .i64 x) ∧ Below wr.heap.size wr W) := Lib.hid (by
          have b : Below wr.heap.size wr W := by rw [← HW.out]; exact balloc (Below.refl _ _) _
          refine ⟨?_, ?_, b⟩ <;> (rw [← HW.out, ← Hp.out]; go_simp))
        have hcs := WL.out.1
        rw [← HW.out] at hcs
        have hE0 : textE s = 0 := by rw [textE, if_pos (by omega)]
        have HE0 := Lib.hid hE0
        clear hE0 hs1
        go_wp2_with fail
        rw [HW.out, Hp.out]
        refine (Text_any s (by unfold maxLen; omega) W).mono ?_
        rw [HT.out, HE0.out]
        rintro e w2 ⟨rfl, b2⟩
        have B2 : Hid (w2.cell? ⟨p, 1, none⟩ = some (.int .i64 x) ∧ Below wr.heap.size wr w2) := Lib.hid ⟨(b2.cell (p := ⟨p, 1, none⟩) (lt_of_cell WL.out.2.1)).trans WL.out.2.1, bnext WL.out.2.2 b2⟩
        clear b2 hcs e0 e1
        have d1 := B2.out.1
        go_wp2_with fail
        refine (Four_any x hx0 (by omega) w2).mono ?_
        rw [Ht2.out]
        rintro e w3 ⟨rfl, b3⟩
        have B3 : Hid (Below wr.heap.size wr w3) := Lib.hid (bnext B2.out.2 b3)
        clear b3 d1 hcv
        obtain ⟨U, HU⟩ : ∃ u, Hid (w3.alloc (.cells #[.string (str t1), .string (str t2)] 9) = u) := ⟨_, Lib.hid rfl⟩
        obtain ⟨sz, Hsz⟩ : ∃ s, Hid (w3.heap.size = s) := ⟨_, Lib.hid rfl⟩
        have hbU : Below wr.heap.size wr U := by rw [← HU.out]; exact bnext B3.out (balloc (Below.refl _ _) _)
        have hI2 : IsG U 1 encT (some ⟨sz, 0, none⟩) 2 [t1, t2] := by rw [← HU.out, ← Hsz.out]; exact t_two w3 t1 t2 _
        obtain ⟨v8, w8, hr8, r8, a8⟩ := appG tInf encT_ok (HJ.out.1.below hbU) (c := 2) hI2 (by rw [Hpn.out]; omega) (by decide) 24
        have HR8 := Lib.hid hr8
        have F8 : Hid (RG w8 1 encT v8 (partsN (l.take (j + 1))) ∧ (∀ g, blk v8 = some g → w.heap.size ≤ g) ∧ Below w.heap.size w w8) := Lib.hid (by
          have bU := bnext HJ.out.2.2 hbU
          refine ⟨by rw [Hst.out]; exact r8, fun g e => ?_, a8.mod.below bU bU.size (fun i e => HJ.out.2.1 i e)⟩
          rcases a8.blk with e2 | ⟨g2, e2, h2⟩
          · exact HJ.out.2.1 g (e2 ▸ e)
          · rw [e2] at e
            obtain rfl := Option.some.inj e
            have := bU.size
            omega)
        clear hbU hI2 hr8 r8 a8
        obtain ⟨A9, n9, c9, rfl⟩ : ∃ A9 n9 c9, v8 = .slice A9 n9 c9 := by
          obtain ⟨A9, c9, e⟩ := F8.out.1.shape
          exact ⟨A9, _, c9, e⟩
        go_wp2_with (first | (at_builtin; rw [HU.out, Hsz.out]; refine wpList_append_run rfl (.tmp 24) (.tmp 30) 24 rfl (by exact HR8.out) ?_) | fail)
        go_roundw
        case rel => exact ⟨j + 1, by omega, by go_num, F8⟩
        case measure => simp [intOf]; omega
      · obtain rfl : j = n := by omega
        have hltI : ¬ (j : Int) < (j : Int) := by omega
        have HA : Hid (partsN (l.take j) = partsN l) := Lib.hid (by rw [List.take_of_length_le (by omega)])
        rw [HA.out] at HJ
        go_wp2_with fail
        refine (JoinT_any A2 pn c2 (partsN l) wr HJ.out.1 (by have := partsN_len l; omega) (by have := HS.out; rw [bytesN] at this; omega)).mono ?_
        rintro e w2 ⟨rfl, b2⟩
        have B2 := Lib.hid (bnext HJ.out.2.2 b2)
        clear b2
        go_wp2_with fail
        go_ret2
        exact ⟨by first | rfl | simp [bytesN], B2.out⟩
end Go.Proofs.YtnoidhfhnaemgaaDoor
