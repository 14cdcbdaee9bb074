/- The document's Split, at this translation. -/
import Derived.Test.YtnoidhfhnaemgaaDoorSr15
namespace Go.Proofs.YtnoidhfhnaemgaaDoor
open Go.RowKit

/-- Where the document's loop stands. -/
structure DS (l : List UInt8) (out : List (List UInt8)) (name : List UInt8) (k : Nat) : Prop where
  at_ : (k ≤ l.length ∧ l.take k = joinP out ++ 47 :: name) ∨ (k = l.length + 1 ∧ joinP out = l ∧ out ≠ [])
  a : ∀ s ∈ out, nameB s = true
  n : out.length ≤ 8
  c : ∀ c ∈ name, c ≠ 47
  t : name.length ≤ 30
theorem DS.here {l : List UInt8} {out : List (List UInt8)} {name : List UInt8} {k : Nat} (h : DS l out name k) (hk : k ≤ l.length) : l = joinP out ++ 47 :: (name ++ l.drop k) := by
  rcases h.at_ with ⟨_, e⟩ | ⟨e, _⟩
  · rw [← List.cons_append, ← List.append_assoc, ← e, List.take_append_drop]
  · omega
theorem DS.first {r : List UInt8} : DS (47 :: r) [] [] 1 := ⟨.inl ⟨by simp, by simp [joinP]⟩, by simp, by simp, by simp, by simp⟩
theorem DS.byte {l : List UInt8} {out : List (List UInt8)} {name : List UInt8} {k : Nat} (h : DS l out name k) (hk : k < l.length) (hx : l[k] ≠ 47) (ht : (name ++ [l[k]]).length ≤ 30) : DS l out (name ++ [l[k]]) (k + 1) :=
  ⟨.inl ⟨hk, by
    rcases h.at_ with ⟨_, e⟩ | ⟨e, _⟩
    · rw [List.take_succ_eq_append_getElem hk, e]; simp
    · omega⟩, h.a, h.n, fun c hc => by
      rcases List.mem_append.1 hc with hc | hc
      · exact h.c c hc
      · simp at hc; rw [hc]; exact hx, ht⟩
theorem DS.long {l : List UInt8} {out : List (List UInt8)} {name : List UInt8} {k : Nat} (h : DS l out name k) (hne : l ≠ [47]) (hk : k < l.length) (hx : l[k] ≠ 47) (ht : 30 < (name ++ [l[k]]).length) : Splits l [] false :=
  splits_long (name := name ++ [l[k]]) (r := l.drop (k + 1)) (by
    have e := h.here (Nat.le_of_lt hk)
    rw [List.drop_eq_getElem_cons hk] at e
    rw [List.append_assoc, List.singleton_append]; exact e) hne (fun c hc => by
      rcases List.mem_append.1 hc with hc | hc
      · exact h.c c hc
      · simp at hc; rw [hc]; exact hx) h.a ht
theorem DS.bad {l : List UInt8} {out : List (List UInt8)} {name : List UInt8} {k : Nat} (h : DS l out name k) (hne : l ≠ [47]) (hk : k ≤ l.length) (hx : ∀ h : k < l.length, l[k] = 47) (hb : nameB name = false ∨ 8 ≤ out.length) : Splits l [] false :=
  splits_bad (name := name) (r := l.drop k) (h.here hk) hne (by
    rcases Nat.lt_or_ge k l.length with h1 | h1
    · exact .inr ⟨l.drop (k + 1), by rw [List.drop_eq_getElem_cons h1, hx h1]⟩
    · exact .inl (List.drop_eq_nil_of_le h1)) h.c h.a hb
theorem DS.name {l : List UInt8} {out : List (List UInt8)} {name : List UInt8} {k : Nat} (h : DS l out name k) (hk : k ≤ l.length) (hx : ∀ h : k < l.length, l[k] = 47) (hb : nameB name = true) (hn : out.length < 8) : DS l (out ++ [name]) [] (k + 1) := by
  refine ⟨?_, fun s hs => ?_, by simp; omega, by simp, by simp⟩
  · rcases h.at_ with ⟨_, e⟩ | ⟨e, _⟩
    · rcases Nat.lt_or_ge k l.length with h1 | h1
      · exact .inl ⟨h1, by rw [List.take_succ_eq_append_getElem h1, e, hx h1, joinP_append]; simp [joinP]⟩
      · refine .inr ⟨by omega, ?_, by simp⟩
        rw [List.take_of_length_le h1] at e
        rw [joinP_append, e]; simp [joinP]
    · omega
  · rcases List.mem_append.1 hs with hs | hs
    · exact h.a s hs
    · simp at hs; rw [hs]; exact hb
theorem DS.done {l : List UInt8} {out : List (List UInt8)} {name : List UInt8} {k : Nat} (h : DS l out name k) (hk : ¬ k ≤ l.length) : Splits l out true := by
  rcases h.at_ with ⟨e, _⟩ | ⟨_, e, hne⟩
  · exact absurd e hk
  · exact splits_done e hne h.n h.a
set_option maxRecDepth 100000 in
set_option maxHeartbeats 4000000 in
theorem XSplit_any (l : List UInt8) (hl : l.length ≤ 1000000) (w : World) :
    Calls Tryd.prog 13 #[.string (str l)] w fun e w' => ∃ (A : Option Addr) (n c : Nat) (X : List (List UInt8)) (b : Bool), e = .returned (.tuple #[.slice A n c, .bool b]) ∧ IsG w' 1 encT A n X ∧ Splits l X b ∧ Below w.heap.size w w' := by
  have G0 : Hid (∀ u, IsG u 1 encT none 0 []) := Lib.hid (fun u => ⟨rfl, Nat.zero_le _, fun h => absurd h (Nat.lt_irrefl _)⟩)
  go_enter Tryd.func13, Tryd.ntmps13
  by_cases h1 : l = [47]
  · subst h1
    go_wp2
    go_ret2
    exact ⟨none, 0, 0, [], true, rfl, G0.out _, splits_root, Below.refl _ _⟩
  have hq : (l == [47]) = false := by simp [h1]
  have Hne := Lib.hid h1
  by_cases h2 : l = []
  · subst h2
    have HS := Lib.hid (splits_other (l := []) (by intro r e; cases e))
    go_wp2
    go_ret2
    exact ⟨none, 0, 0, [], false, rfl, G0.out _, HS.out, Below.refl _ _⟩
  have h0 : 0 < l.length := List.length_pos_iff.2 h2
  have hq0 : (l == []) = false := by simp [h2]
  obtain ⟨x, Hx⟩ : ∃ x, Hid (l[0]'h0 = x) := ⟨_, Lib.hid rfl⟩
  have hx0 := Hx.out
  by_cases hx : x = 47
  case neg =>
    have HS := Lib.hid (splits_other (l := l) (by intro r e; subst e; exact hx Hx.out.symm))
    have hxq : ((x.toNat : Int) != 47) = true := by
      have : x.toNat ≠ 47 := fun e => hx (UInt8.toNat_inj.1 e)
      simp; omega
    clear h1 h2
    go_wp2
    go_ret2
    exact ⟨none, 0, 0, [], false, rfl, G0.out _, HS.out, Below.refl _ _⟩
  case pos =>
  subst hx
  have HD : Hid (DS l [] [] 1) := Lib.hid (by
    rcases l with _ | ⟨y, t⟩
    · exact absurd rfl h2
    · have : y = 47 := hx0
      subst this; exact DS.first)
  have hxq : ((((47 : UInt8)).toNat : Int) != 47) = false := by decide
  clear h1 h2
  go_wp2
  clear hq hq0 hxq hx0
  go_loopw [4, 5, 6] (fun o nm i wr => ∃ (k : Nat) (v : Value) (out : List (List UInt8)) (name : List UInt8), 1 ≤ k ∧ k ≤ l.length + 1 ∧ o = v ∧ nm = .string (str name) ∧ i = .int .i64 (k : Int) ∧ Hid (RG wr 1 encT v out) ∧ Hid (∀ g, blk v = some g → w.heap.size ≤ g) ∧ Hid (Below w.heap.size w wr) ∧ Hid (DS l out name k)) (fun _ _ i _ => l.length + 1 - (intOf i).toNat)
  case atStart => exact ⟨1, _, [], [], by omega, by omega, rfl, rfl, rfl, Lib.hid (RG.nil _ _ _), Lib.hid (fun g hg => by cases hg), Lib.hid (Below.refl _ _), HD⟩
  case round =>
    obtain ⟨k, v, out, name, hk1, hk, rfl, rfl, rfl, HR, HN, HB, HDS⟩ := hrel
    obtain ⟨A, c, hv⟩ := HR.out.shape
    subst hv
    by_cases hle : k ≤ l.length
    · have hleI : (k : Int) ≤ (l.length : Int) := by omega
      by_cases hbyte : ∃ h : k < l.length, l[k] ≠ 47
      · obtain ⟨hlt, hx⟩ := hbyte
        have hltI : (k : Int) < (l.length : Int) := by omega
        obtain ⟨x, Hxx⟩ : ∃ x, Hid (l[k]'hlt = x) := ⟨_, Lib.hid rfl⟩
        have hxx := Hxx.out
        have hxq : ((x.toNat : Int) != 47) = true := by
          have : x.toNat ≠ 47 := fun e => hx (hxx.trans (UInt8.toNat_inj.1 e))
          simp; omega
        have Hlong : Hid (30 < (name ++ [x]).length → Splits l [] false) := Lib.hid (fun h => by rw [← hxx] at h; exact HDS.out.long Hne.out hlt hx h)
        have Hbyte : Hid ((name ++ [x]).length ≤ 30 → DS l out (name ++ [x]) (k + 1)) := Lib.hid (fun h => by rw [← hxx] at h ⊢; exact HDS.out.byte hlt hx h)
        have htk : List.take (k + 1 - k) (List.drop k l) = [x] := by
          rw [List.drop_eq_getElem_cons hlt, hxx]; simp
        have htk2 : List.take 1 (List.drop k l) = [x] := by
          rw [List.drop_eq_getElem_cons hlt, hxx]; simp
        obtain ⟨nm, Hnm⟩ : ∃ nm, Hid (name ++ [x] = nm) := ⟨_, Lib.hid rfl⟩
        have hnm := Hnm.out
        rw [hnm] at Hlong Hbyte
        have hov : ¬ 9223372036854775807 < name.length + 1 := by have := HDS.out.t; omega
        clear hx
        by_cases h30 : (30 : Int) < (nm.length : Int)
        · have HS := Lib.hid (Hlong.out (by omega))
          go_wp2
          go_ret2
          exact ⟨none, 0, 0, [], false, rfl, G0.out _, HS.out, HB.out⟩
        · have HD2 := Lib.hid (Hbyte.out (by omega))
          go_wp2
          go_roundw
          case rel => exact ⟨k + 1, _, out, nm, by omega, by omega, rfl, rfl, by go_num, HR, HN, HB, HD2⟩
          case measure => simp [intOf]; omega
      · have hx : ∀ h : k < l.length, l[k] = 47 := fun h => Classical.byContradiction (fun e => hbyte ⟨h, e⟩)
        obtain ⟨b, Hb⟩ : ∃ b, Hid (nameB name = b) := ⟨_, Lib.hid rfl⟩
        have Hbad : Hid (b = false ∨ 8 ≤ out.length → Splits l [] false) := Lib.hid (fun h => by
          rw [← Hb.out] at h; exact HDS.out.bad Hne.out hle hx h)
        have Hgo : Hid (b = true → out.length < 8 → DS l (out ++ [name]) [] (k + 1)) := Lib.hid (fun h h2 => by
          rw [← Hb.out] at h; exact HDS.out.name hle hx h h2)
        have hout := HDS.out.n
        by_cases hlt : k < l.length
        · have hltI : (k : Int) < (l.length : Int) := by omega
          have hxx := hx hlt
          have hxq : ((((47 : UInt8)).toNat : Int) != 47) = false := by decide
          clear hx hbyte
          go_wp2_with fail
          refine (XName_any name _).mono ?_
          rw [Hb.out]
          rintro e w1 ⟨rfl, hb⟩
          have HB1 := Lib.hid (bnext HB.out hb)
          have HR1 := Lib.hid (HR.out.later (Mod.of_below (S := fun _ => False) hb) (fun _ _ => id))
          clear hb
          cases b
          · have HS := Lib.hid (Hbad.out (.inl (by first | rfl | trivial)))
            go_wp2
            go_ret2
            exact ⟨none, 0, 0, [], false, rfl, G0.out _, HS.out, HB1.out⟩
          · by_cases h8 : (8 : Int) ≤ (out.length : Int)
            · have HS := Lib.hid (Hbad.out (.inr (by omega)))
              go_wp2
              go_ret2
              exact ⟨none, 0, 0, [], false, rfl, G0.out _, HS.out, HB1.out⟩
            · have HD2 := Lib.hid (Hgo.out (by first | rfl | trivial) (by omega))
              obtain ⟨W9, HW9⟩ : ∃ y, Hid (w1.alloc (.cells #[.string (str name)] 9) = y) := ⟨_, Lib.hid rfl⟩
              have B9 : Hid (Below w1.heap.size w1 W9) := Lib.hid (by rw [← HW9.out]; exact balloc (Below.refl _ w1) _)
              obtain ⟨q9, Hq9⟩ : ∃ y, Hid (w1.heap.size = y) := ⟨_, Lib.hid rfl⟩
              have G9 : Hid (IsG W9 1 encT (some ⟨q9, 0, none⟩) 1 [name]) := Lib.hid (by rw [← HW9.out, ← Hq9.out]; exact t_one w1 name _)
              obtain ⟨T6, w6, hr6, r6, a6⟩ := appG tInf encT_ok (HR1.out.below B9.out) (c := 1) G9.out (by omega) (by decide) 24
              have Hr6 := Lib.hid hr6
              have HR6 := Lib.hid r6
              have HN6 : Hid (∀ g, blk T6 = some g → w.heap.size ≤ g) := Lib.hid (fun g hg => by
                rcases a6.blk with e | ⟨g', e, h'⟩
                · exact HN.out g (e ▸ hg)
                · rw [e] at hg; injection hg with hg; have := B9.out.size; have := HB1.out.size; omega)
              have HB6 : Hid (Below w.heap.size w w6) := Lib.hid (Mod.below (bnext HB1.out B9.out) a6.mod (bnext HB1.out B9.out).size (fun g hg => HN.out g hg))
              clear hr6 r6 a6
              go_wp2_with (at_builtin; rw [HW9.out, Hq9.out]; refine wpList_append_run rfl (.tmp 52) (.tmp 54) 24 rfl (by exact Hr6.out) ?_)
              go_roundw
              case rel => exact ⟨k + 1, T6, out ++ [name], [], by omega, by omega, rfl, rfl, by go_num, HR6, HN6, HB6, HD2⟩
              case measure => simp [intOf]; omega
        · have hltI : ¬ (k : Int) < (l.length : Int) := by omega
          clear hx hbyte
          go_wp2_with fail
          refine (XName_any name _).mono ?_
          rw [Hb.out]
          rintro e w1 ⟨rfl, hb⟩
          have HB1 := Lib.hid (bnext HB.out hb)
          have HR1 := Lib.hid (HR.out.later (Mod.of_below (S := fun _ => False) hb) (fun _ _ => id))
          clear hb
          cases b
          · have HS := Lib.hid (Hbad.out (.inl (by first | rfl | trivial)))
            go_wp2
            go_ret2
            exact ⟨none, 0, 0, [], false, rfl, G0.out _, HS.out, HB1.out⟩
          · by_cases h8 : (8 : Int) ≤ (out.length : Int)
            · have HS := Lib.hid (Hbad.out (.inr (by omega)))
              go_wp2
              go_ret2
              exact ⟨none, 0, 0, [], false, rfl, G0.out _, HS.out, HB1.out⟩
            · have HD2 := Lib.hid (Hgo.out (by first | rfl | trivial) (by omega))
              obtain ⟨W9, HW9⟩ : ∃ y, Hid (w1.alloc (.cells #[.string (str name)] 9) = y) := ⟨_, Lib.hid rfl⟩
              have B9 : Hid (Below w1.heap.size w1 W9) := Lib.hid (by rw [← HW9.out]; exact balloc (Below.refl _ w1) _)
              obtain ⟨q9, Hq9⟩ : ∃ y, Hid (w1.heap.size = y) := ⟨_, Lib.hid rfl⟩
              have G9 : Hid (IsG W9 1 encT (some ⟨q9, 0, none⟩) 1 [name]) := Lib.hid (by rw [← HW9.out, ← Hq9.out]; exact t_one w1 name _)
              obtain ⟨T6, w6, hr6, r6, a6⟩ := appG tInf encT_ok (HR1.out.below B9.out) (c := 1) G9.out (by omega) (by decide) 24
              have Hr6 := Lib.hid hr6
              have HR6 := Lib.hid r6
              have HN6 : Hid (∀ g, blk T6 = some g → w.heap.size ≤ g) := Lib.hid (fun g hg => by
                rcases a6.blk with e | ⟨g', e, h'⟩
                · exact HN.out g (e ▸ hg)
                · rw [e] at hg; injection hg with hg; have := B9.out.size; have := HB1.out.size; omega)
              have HB6 : Hid (Below w.heap.size w w6) := Lib.hid (Mod.below (bnext HB1.out B9.out) a6.mod (bnext HB1.out B9.out).size (fun g hg => HN.out g hg))
              clear hr6 r6 a6
              go_wp2_with (at_builtin; rw [HW9.out, Hq9.out]; refine wpList_append_run rfl (.tmp 52) (.tmp 54) 24 rfl (by exact Hr6.out) ?_)
              go_roundw
              case rel => exact ⟨k + 1, T6, out ++ [name], [], by omega, by omega, rfl, rfl, by go_num, HR6, HN6, HB6, HD2⟩
              case measure => simp [intOf]; omega
    · have hleI : ¬ (k : Int) ≤ (l.length : Int) := by omega
      have HS := Lib.hid (HDS.out.done hle)
      have HG := Lib.hid (HR.out.is encT_ok).1
      go_wp2
      go_ret2
      exact ⟨A, out.length, c, out, .inr ⟨rfl, HG.out, HS.out, HB.out⟩⟩
end Go.Proofs.YtnoidhfhnaemgaaDoor
