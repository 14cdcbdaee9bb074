/- What package journal's lines and Record give, at this translation. -/
import Derived.Test.YtgncmgchoogmpaaDoorJa11
import Derived.Test.YtgncmgchoogmpaaDoorGs11
namespace Go.Proofs.YtgncmgchoogmpaaDoor
open Go.RowKit

theorem chInfo0 : (Tryd.prog.info? 32).map (fun i => (i.zero, i.size, i.bytes)) = some (some (.agg #[.int .i64 0, .string ⟨#[]⟩]), 2, 24) := by kernel_rfl
theorem chInf : Inf 30 32 2 24 := ⟨Tryd.underlying30, by
  have h := chInfo0
  cases hq : Tryd.prog.info? 32 with
  | none => rw [hq] at h; cases h
  | some i0 =>
    rw [hq] at h
    simp only [Option.map_some, Option.some.injEq, Prod.mk.injEq] at h
    exact ⟨i0, _, rfl, h.1, h.2.1, h.2.2, rfl⟩⟩
theorem stInfo0 : (Tryd.prog.info? 9).map (fun i => (i.zero, i.size, i.bytes)) = some (some (.string ⟨#[]⟩), 1, 16) := by kernel_rfl
theorem stInf : Inf 29 9 1 16 := ⟨Tryd.underlying29, by
  have h := stInfo0
  cases hq : Tryd.prog.info? 9 with
  | none => rw [hq] at h; cases h
  | some i0 =>
    rw [hq] at h
    simp only [Option.map_some, Option.some.injEq, Prod.mk.injEq] at h
    exact ⟨i0, _, rfl, h.1, h.2.1, h.2.2, rfl⟩⟩
theorem IsG.strs {w : World} {A : Option Addr} {n : Nat} {l : List (List UInt8)} (h : IsG w 1 encS A n l) (hw : ∀ s ∈ l, s.length ≤ maxLen) : IsStrs w A n l :=
  ⟨h.length, h.max, hw, fun h0 => by
    obtain ⟨g, off, e, _, hc⟩ := h.cells h0
    refine ⟨g, off, e, fun i hi => ?_⟩
    have hil : i < l.length := by have := h.length; omega
    have := hc i l[i] 0 (.string (str l[i])) (List.getElem?_eq_getElem hil) rfl
    rw [Nat.mul_one, Nat.add_zero] at this
    rw [this, List.getD_eq_getElem?_getD, List.getElem?_eq_getElem hil]
    rfl⟩
theorem IsStrs.isG {w : World} {A : Option Addr} {n : Nat} {l : List (List UInt8)} (h : IsStrs w A n l) : IsG w 1 encS A n l :=
  ⟨h.length, h.max, fun h0 => by
    obtain ⟨g, off, e, hc⟩ := h.cells h0
    refine ⟨g, off, e, lt_of_cell (hc 0 h0), fun i a j u hi hj => ?_⟩
    obtain ⟨hil, rfl⟩ := List.getElem?_eq_some_iff.1 hi
    match j, hj with
    | 0, hj =>
      simp [encS] at hj
      subst hj
      have := hc i (by have := h.length; omega)
      rw [List.getD_eq_getElem?_getD, List.getElem?_eq_getElem hil] at this
      rw [Nat.mul_one, Nat.add_zero]
      exact this
    | j + 1, hj => simp [encS] at hj⟩
theorem results_tct {fn : Func} {p u v : Tmp} {ty : TypeId} (h : fn.results = #[.tmp p, .cell u ty, .tmp v]) (tmps : Array Value) (P : Program) (w : World) :
    (results fn tmps).run P w = ((asAddr (tmps.getD u undef)).run P w).andThen fun a w₁ => ((loadVar ty a).run P w₁).andThen fun x w₂ => .ok (.tuple #[tmps.getD p undef, x, tmps.getD v undef]) w₂ := by
  simp only [results, h]
  simp [Sem.run_bind, Result.andThen]
def chV (c : Ch) : Value := .agg #[.int .i64 c.1, .string (str c.2)]
@[go_sem] theorem chV_def (c : Ch) : chV c = .agg #[.int .i64 c.1, .string (str c.2)] := rfl
@[go_sem] theorem str_empty : (⟨#[]⟩ : ByteArray) = str [] := rfl

theorem jline_any (b : Nat) (rc sg rest : List UInt8) (w : World) (h : w.cell? ⟨b, 0, none⟩ = some (.string (str rc))) (hl : sg.length + rc.length + rest.length ≤ 100000) :
    Calls Tryd.prog 56 #[.string (str sg), .string (str rest), .pointer (some ⟨b, 0, none⟩)] w fun e w' => e = .returned (.string (str (fillS (sg ++ (rc ++ rest))))) ∧ Below w.heap.size w w' := by
  have hl' := Lib.hid hl
  have q1 : ¬ (9223372036854775807 < sg.length + rc.length) := by omega
  have q2 : ¬ (9223372036854775807 < sg.length + rc.length + rest.length) := by omega
  clear hl
  go_enter Tryd.func56, Tryd.ntmps56
  go_wp2_with fail
  refine (jfill_any _ (by have := hl'.out; simp only [List.length_append]; unfold maxLen; omega) _).mono ?_
  rintro e w1 ⟨rfl, hb⟩
  go_wp2
  go_ret
  exact ⟨rfl, hb⟩
theorem jlines_any (seq n : Int) (h0 : 0 ≤ seq) (h1 : seq ≤ 1099511627776) (h2 : 0 ≤ n) (h3 : n < 65536) (w : World) :
    Calls Tryd.prog 40 #[.int .i64 seq, .int .i64 n] w fun e w' => ∃ b, e = .returned (.func (.func 56) #[] #[.pointer (some ⟨b, 0, none⟩)]) ∧ w.heap.size ≤ b ∧ Below w.heap.size w w' ∧ w'.cell? ⟨b, 0, none⟩ = some (.string (str (be 8 seq.toNat ++ be 2 n.toNat))) := by
  have c1 : IntKind.u64.wrap seq = seq := IntWalk.u64_in _ (by omega)
  have c2 : IntKind.u16.wrap n = n := IntWalk.u16_in _ (by omega)
  have b8 := be_length 8 seq.toNat
  have b2 := be_length 2 n.toNat
  go_enter Tryd.func40, Tryd.ntmps40
  go_wp2_with fail
  refine (Eight_any _ (by omega) (by omega) _).mono ?_
  rintro e w1 ⟨rfl, hb⟩
  go_wp2_with fail
  refine (Two_any _ (by omega) (by omega) _).mono ?_
  rintro e w2 ⟨rfl, hb2⟩
  have Hb := Lib.hid (bnext hb hb2)
  clear hb hb2
  go_wp2
  go_ret
  exact ⟨w2.heap.size, rfl, Hb.out.size, balloc Hb.out _, by simp [go_sem]⟩
/-- A change in a box that may be written. -/
structure ChAt (w : World) (p : Nat) (c : Ch) : Prop where
  c0 : w.cell? ⟨p, 0, none⟩ = some (.int .i64 c.1)
  c1 : w.cell? ⟨p, 1, none⟩ = some (.string (str c.2))
  f0 : w.frozen? ⟨p, 0, none⟩ = false
  f1 : w.frozen? ⟨p, 1, none⟩ = false
theorem ChAt.new (w : World) (c : Ch) (t : TypeId) : ChAt (w.alloc (.cells #[.int .i64 c.1, .string (str c.2)] t)) w.heap.size c := by
  refine ⟨?_, ?_, ?_, ?_⟩ <;> simp [go_sem]
theorem ChAt.lt {w : World} {p : Nat} {c : Ch} (h : ChAt w p c) : p < w.heap.size := lt_of_cell h.c0
theorem ChAt.later {S : Nat → Prop} {w w' : World} {p : Nat} {c : Ch} (h : ChAt w p c) (m : Mod S w w') (hs : ¬ S p) : ChAt w' p c :=
  ⟨(m.cell (p := ⟨p, 0, none⟩) h.lt hs).trans h.c0, (m.cell (p := ⟨p, 1, none⟩) h.lt hs).trans h.c1, (m.frozen (p := ⟨p, 0, none⟩) h.lt hs).trans h.f0, (m.frozen (p := ⟨p, 1, none⟩) h.lt hs).trans h.f1⟩
theorem ChAt.below {w w' : World} {p : Nat} {c : Ch} (h : ChAt w p c) (m : Below w.heap.size w w') : ChAt w' p c := h.later (Mod.of_below (S := fun _ => False) m) id
def setC (w : World) (p : Nat) (c : Ch) : World := (w.setCell ⟨p, 0, none⟩ (.int .i64 c.1)).setCell ⟨p, 1, none⟩ (.string (str c.2))
theorem ChAt.set {w : World} {p : Nat} {c : Ch} (h : ChAt w p c) (d : Ch) : ChAt (setC w p d) p d :=
  ⟨set_other (by simp) (set_same h.c0), set_same (set_other (by simp) h.c1), set_frozen (set_frozen h.f0), set_frozen (set_frozen h.f1)⟩
theorem setC_mod (w : World) (p : Nat) (d : Ch) : Mod (· = p) w (setC w p d) := ((Mod.refl _ w).set1 _).set1 _
theorem setC_below {w u : World} {p : Nat} (h : Below w.heap.size w u) (hp : w.heap.size ≤ p) (d : Ch) : Below w.heap.size w (setC u p d) := bmod h (setC_mod u p d) hp
theorem ChAt.ret {w : World} {p : Nat} {c : Ch} (h : ChAt w p c) : (loadVar 32 ⟨p, 0, none⟩).run Tryd.prog w = .ok (chV c) w := by
  have c0 := h.c0
  have c1 := h.c1
  go_simp
theorem isG_nil {α : Type} (w : World) (k : Nat) (enc : α → List Value) : IsG w k enc none 0 [] := ⟨rfl, Nat.zero_le _, fun h => by omega⟩
set_option maxRecDepth 100000 in
set_option maxHeartbeats 4000000 in
theorem jRecord_no (size seq : Int) (A : Option Addr) (n c : Nat) (l : List Ch) (w : World) (h : IsG w 2 encC A n l) (he : recE size seq l ≠ 0) :
    Calls Tryd.prog 19 #[.int .i64 size, .int .i64 seq, .slice A n c] w fun e w' => e = .returned (.tuple #[.slice none 0 0, chV (0, []), .int .i64 (recE size seq l)]) ∧ Below w.heap.size w w' := by
  obtain ⟨w0, HW0⟩ : ∃ x, Hid (w.alloc (.cells #[.int .i64 0, .string (str [])] 32) = x) := ⟨_, Lib.hid rfl⟩
  have hlen := h.length
  have hsm := h.small
  have B0 : Hid (Below w.heap.size w w0) := Lib.hid (by rw [← HW0.out]; exact balloc (Below.refl _ _) _)
  have K0 : Hid (ChAt w0 w.heap.size (0, [])) := Lib.hid (by rw [← HW0.out]; exact ChAt.new w (0, []) _)
  obtain ⟨p, Hp⟩ : ∃ x, Hid (w.heap.size = x) := ⟨_, Lib.hid rfl⟩
  have G0 := Lib.hid (h.below B0.out)
  clear h
  by_cases h1 : seq < 1 ∨ 1099511627776 < seq ∨ l = [] ∨ rowB l = false
  · have hE : Hid (recE size seq l = 1) := Lib.hid (by rw [recE, if_pos h1])
    rw [hE.out]
    by_cases h2 : seq < 1
    · go_enter Tryd.func19, Tryd.ntmps19
      go_wp2
      refine bodyPost_ret (v := .tuple #[.slice none 0 0, chV (0, []), .int .i64 1]) ?_ rfl ⟨rfl, balloc (Below.refl _ _) _⟩
      rw [results_tct rfl]
      go_simp
    · by_cases h3 : 1099511627776 < seq
      · go_enter Tryd.func19, Tryd.ntmps19
        go_wp2
        refine bodyPost_ret (v := .tuple #[.slice none 0 0, chV (0, []), .int .i64 1]) ?_ rfl ⟨rfl, balloc (Below.refl _ _) _⟩
        rw [results_tct rfl]
        go_simp
      · by_cases h4 : n = 0
        · subst h4
          go_enter Tryd.func19, Tryd.ntmps19
          go_wp2
          refine bodyPost_ret (v := .tuple #[.slice none 0 0, chV (0, []), .int .i64 1]) ?_ rfl ⟨rfl, balloc (Below.refl _ _) _⟩
          rw [results_tct rfl]
          go_simp
        · have h5 : rowB l = false := by
            rcases h1 with h | h | h | h
            · omega
            · omega
            · subst h; simp at hlen; omega
            · exact h
          have hz : ((n : Int) == 0) = false := by simp; omega
          clear h1
          go_enter Tryd.func19, Tryd.ntmps19
          go_wp2_with fail
          rw [HW0.out, Hp.out]
          refine (jrow_any A n c l _ G0.out).mono ?_
          rw [h5]
          rintro e w1 ⟨rfl, hb1⟩
          have K1 := K0.out.below hb1
          have Hb1 := Lib.hid (bnext B0.out hb1)
          rw [Hp.out] at K1
          have c0 := K1.c0
          have c1 := K1.c1
          have f0 := K1.f0
          have f1 := K1.f1
          go_wp2
          refine bodyPost_ret (v := .tuple #[.slice none 0 0, chV (0, []), .int .i64 1]) ?_ rfl ⟨rfl, ?_⟩
          · rw [results_tct rfl]
            go_simp
          · exact setC_below Hb1.out (by have := Hp.out; omega) (0, [])
  · simp only [not_or, Bool.not_eq_false] at h1
    obtain ⟨h2, h3, h4, h5⟩ := h1
    have h6 : roomI size < l.length := by
      rcases Int.lt_or_le (roomI size) l.length with h | h
      · exact h
      · exact absurd (recE_of (by omega) (by omega) h4 h5 h) he
    have hE : Hid (recE size seq l = 15) := Lib.hid (by rw [recE, if_neg (by simp only [not_or, Bool.not_eq_false]; exact ⟨h2, h3, h4, h5⟩), if_pos h6])
    rw [hE.out]
    rw [hlen] at h6
    have h7 : n ≠ 0 := by rintro rfl; exact h4 (List.eq_nil_of_length_eq_zero hlen)
    have hz : ((n : Int) == 0) = false := by simp; omega
    clear h4 he
    go_enter Tryd.func19, Tryd.ntmps19
    go_wp2_with fail
    rw [HW0.out, Hp.out]
    refine (jrow_any A n c l _ G0.out).mono ?_
    rw [h5]
    rintro e w1 ⟨rfl, hb1⟩
    have K1 := K0.out.below hb1
    have Hb1 := Lib.hid (bnext B0.out hb1)
    rw [Hp.out] at K1
    have c0 := K1.c0
    have c1 := K1.c1
    have f0 := K1.f0
    have f1 := K1.f1
    go_wp2_with fail
    refine (jRoom_any _ _).mono ?_
    rintro e w2 ⟨rfl, rfl⟩
    go_wp2
    refine bodyPost_ret (v := .tuple #[.slice none 0 0, chV (0, []), .int .i64 15]) ?_ rfl ⟨rfl, ?_⟩
    · rw [results_tct rfl]
      go_simp
    · exact setC_below Hb1.out (by have := Hp.out; omega) (0, [])
theorem RG.one (w : World) (s : List UInt8) (t : TypeId) : RG (w.alloc (.cells #[.string (str s)] t)) 1 encS (.slice (some ⟨w.heap.size, 0, none⟩) 1 1) [s] :=
  ⟨rfl, .inr ⟨w.heap.size, 0, 1, rfl, by simp, by simp, by unfold maxLen; omega, fun j u hu => by
    match j, hu with
    | 0, hu => simp [flat, encS] at hu; subst hu; simp [go_sem]
    | j + 1, hu => simp [flat, encS] at hu, fun j hj => by simp at hj, fun j hj => by simp [go_sem]⟩⟩
theorem isG_one (w : World) (s : List UInt8) (t : TypeId) : IsG (w.alloc (.cells #[.string (str s)] t)) 1 encS (some ⟨w.heap.size, 0, none⟩) 1 [s] := ((RG.one w s t).is encS_ok).1
theorem RG.open {α : Type} {w : World} {k : Nat} {enc : α → List Value} {v : Value} {l : List α} (h : RG w k enc v l) {n : Nat} (hl : l.length = n) (hn : 0 < n) : ∃ g off cap, v = .slice (some ⟨g, off, none⟩) n cap ∧ g < w.heap.size := by
  rcases h.row.is with ⟨_, e⟩ | ⟨g, off, cap, e, hg, _⟩
  · omega
  · exact ⟨g, off, cap, by rw [e, hl], hg⟩
theorem RG.cell {α : Type} {w : World} {k : Nat} {enc : α → List Value} (he : Enc k enc) {g off n c : Nat} {l : List α} (h : RG w k enc (.slice (some ⟨g, off, none⟩) n c) l) {i : Nat} {a : α} (hi : l[i]? = some a) {j : Nat} {u : Value} (hj : (enc a)[j]? = some u) :
    w.cell? ⟨g, off + i * k + j, none⟩ = some u ∧ w.frozen? ⟨g, off + i * k + j, none⟩ = false := by
  rcases h.row.is with ⟨e, _⟩ | ⟨g', off', cap', e, hg, h1, h2, hc, hs, hf⟩
  · cases e
  · injection e with e e2 e3
    have e4 : g = g' := congrArg Addr.block (Option.some.inj e)
    have e5 : off = off' := congrArg Addr.off (Option.some.inj e)
    subst e4 e5 e3
    have hil := (List.getElem?_eq_some_iff.1 hi).1
    have hjl := (List.getElem?_eq_some_iff.1 hj).1
    rw [he.len] at hjl
    have h3 : (i + 1) * k ≤ c * k := Nat.mul_le_mul_right _ (by omega)
    rw [Nat.add_mul] at h3
    rw [Nat.add_assoc]
    exact ⟨hc _ _ (flat_get he l i a j u hi hj), hf _ (by omega)⟩
theorem mkCh (w : World) (n : Nat) (hn : n ≤ 1000) (x : Int) (hx : x = (n : Int)) : (Instr.makeSlice 30 (.int .i64 x) (.int .i64 x)).run Tryd.prog w = .ok (.slice (some ⟨w.heap.size, 0, none⟩) n n) (w.alloc (.cells (madeCells (encC (0, [])).toArray (n * 2)) 32)) := by
  obtain ⟨i0, hi, hz0, hz1, hz2⟩ := info_parts chInfo0
  subst hx
  have h := run_make (P := Tryd.prog) w 30 32 i0 (.agg #[.int .i64 0, .string ⟨#[]⟩]) Tryd.underlying30 hi hz0 .i64 .i64 n n (by omega) (Int.le_refl _) (by rw [hz2]; omega) (by omega)
  simp only [Int.toNat_natCast, hz1] at h
  exact h
set_option maxRecDepth 100000 in
set_option maxHeartbeats 4000000 in
theorem jRecord_yes (size seq : Int) (A : Option Addr) (n c : Nat) (l : List Ch) (w : World) (h : IsG w 2 encC A n l) (he : recE size seq l = 0) (hT : Tab w) (hsz : size ≤ 9223372036854775807) :
    Calls Tryd.prog 19 #[.int .i64 size, .int .i64 seq, .slice A n c] w fun e w' => ∃ B d, e = .returned (.tuple #[.slice B (n + 1) d, chV (size - 1, markS seq.toNat l), .int .i64 0]) ∧ RG w' 2 encC (.slice B (n + 1) d) (numbered 1 (textsS seq.toNat l)) ∧ (∀ g, blk (.slice B (n + 1) d) = some g → w.heap.size ≤ g) ∧ Below w.heap.size w w' := by
  obtain ⟨w0, HW0⟩ : ∃ x, Hid (w.alloc (.cells #[.int .i64 0, .string (str [])] 32) = x) := ⟨_, Lib.hid rfl⟩
  have hlen := h.length
  have B0 : Hid (Below w.heap.size w w0) := Lib.hid (by rw [← HW0.out]; exact balloc (Below.refl _ _) _)
  have K0 : Hid (ChAt w0 w.heap.size (0, [])) := Lib.hid (by rw [← HW0.out]; exact ChAt.new w (0, []) _)
  obtain ⟨p, Hp⟩ : ∃ x, Hid (w.heap.size = x) := ⟨_, Lib.hid rfl⟩
  have G0 := Lib.hid (h.below B0.out)
  have GW := Lib.hid h
  have HT := Lib.hid hT
  clear h hT
  obtain ⟨h2, h3, h4, h5, h6⟩ := recE_ok he
  have h60 := roomI_le size
  have h63 : 4 ≤ size := by
    have : 1 ≤ l.length := List.length_pos_iff.2 h4
    unfold roomI at h6
    omega
  rw [hlen] at h6
  have h7 : n ≠ 0 := by rintro rfl; exact h4 (List.eq_nil_of_length_eq_zero hlen)
  have hz : ((n : Int) == 0) = false := by simp; omega
  have hn60 : n ≤ 60 := by omega
  have h61 : ¬ roomI size < (n : Int) := by omega
  have hsz := Lib.hid (show IntKind.i64.wrap (size - 1) = size - 1 from IntWalk.i64_in _ (by omega))
  have h21 : ¬ seq < 1 := by omega
  have h31 : ¬ 1099511627776 < seq := by omega
  have HR := Lib.hid h5
  clear h4 he h6 h60
  go_enter Tryd.func19, Tryd.ntmps19
  go_wp2_with fail
  rw [HW0.out, Hp.out]
  refine (jrow_any A n c l _ G0.out).mono ?_
  rw [h5]
  rintro e w1 ⟨rfl, hb1⟩
  have K1 := Lib.hid (K0.out.below hb1)
  have Hb1 := Lib.hid (bnext B0.out hb1)
  rw [Hp.out] at K1
  clear hb1
  go_wp2_with fail
  refine (jRoom_any _ _).mono ?_
  rintro e w2 ⟨rfl, rfl⟩
  go_wp2_with fail
  obtain ⟨w2, HW2⟩ : ∃ x, Hid (w1.alloc (.cells #[.string (str [])] 9) = x) := ⟨_, Lib.hid rfl⟩
  have B2 : Hid (Below w1.heap.size w1 w2) := Lib.hid (by rw [← HW2.out]; exact balloc (Below.refl _ _) _)
  have R2 : Hid (RG w2 1 encS (.slice (some ⟨w1.heap.size, 0, none⟩) 1 1) [[]]) := Lib.hid (by rw [← HW2.out]; exact RG.one w1 [] _)
  have Hb2 : Hid (Below w.heap.size w w2) := Lib.hid (bnext Hb1.out B2.out)
  have K2 := Lib.hid (K1.out.below B2.out)
  have N2 : Hid (∀ g, blk (.slice (some ⟨w1.heap.size, 0, none⟩) 1 1) = some g → p < g) := Lib.hid (fun g hg => by
    simp only [blk, Option.some.injEq] at hg
    have := K1.out.lt
    omega)
  obtain ⟨T2, HT2⟩ : ∃ x, Hid (Value.slice (some ⟨w1.heap.size, 0, none⟩) 1 1 = x) := ⟨_, Lib.hid rfl⟩
  rw [HT2.out] at R2 N2
  rw [HW2.out, HT2.out]
  clear HT2 HW2 B2 Hb1 K1
  have HL := Lib.hid hlen
  have hrow : Hid (∀ c ∈ l, 0 ≤ c.1 ∧ c.1 < 65536 ∧ c.2.length = 512) := Lib.hid (rowB_of HR.out)
  clear hlen h5
  go_loopw [9, 10, 43] (fun s v i wr => ∃ (k : Nat) (T : Value), k ≤ n ∧ i = .int .i64 k ∧ v = T ∧ s = .string (str (sects (l.take k))) ∧ Hid (RG wr 1 encS T ([] :: (l.take k).map Prod.snd)) ∧ Hid (∀ g, blk T = some g → p < g) ∧ Hid (ChAt wr p (0, [])) ∧ Hid (Below w.heap.size w wr)) (fun _ _ i _ => n - (intOf i).toNat)
  case atStart => exact ⟨0, T2, Nat.zero_le _, rfl, rfl, rfl, R2, N2, K2, Hb2⟩
  case round =>
    obtain ⟨k, T, hk, rfl, rfl, rfl, HRr, HNr, HKr, HBr⟩ := hrel
    by_cases hlt : k < n
    · have HLn := HL.out
      obtain ⟨g, off, rfl, hg, hc⟩ := (GW.out.below HBr.out).cells (by omega)
      obtain ⟨x, hx⟩ : ∃ x, l[k]? = some x := ⟨_, List.getElem?_eq_getElem (by omega)⟩
      have c0 := hc k x 0 (.int .i64 x.1) hx rfl
      rw [Nat.add_zero] at c0
      have c1 := hc k x 1 (.string (str x.2)) hx rfl
      obtain ⟨hx0, hx1, hx2⟩ := hrow.out x (List.mem_of_getElem? hx)
      have hst : Hid (l.take (k + 1) = l.take k ++ [x]) := Lib.hid (by
        obtain ⟨hk', he⟩ := List.getElem?_eq_some_iff.1 hx
        rw [List.take_succ_eq_append_getElem hk', he])
      have hsl : (sects (l.take k)).length ≤ 240 := by rw [sects_length, List.length_take]; omega
      obtain ⟨S0, HS0⟩ : ∃ x, Hid (sects (l.take k) = x) := ⟨_, Lib.hid rfl⟩
      have hbe := be_length 4 x.1.toNat
      have hcv : IntKind.u32.wrap x.1 = x.1 := IntWalk.u32_in _ (by omega)
      rw [HS0.out] at hsl ⊢
      have hltI : (k : Int) < (n : Int) := by omega
      clear hc hx hg HLn
      go_wp2_with fail
      obtain ⟨w3, HW3⟩ : ∃ y, Hid (wr.alloc (.cells #[.int .i64 x.1, .string (str x.2)] 32) = y) := ⟨_, Lib.hid rfl⟩
      have B3 : Hid (Below wr.heap.size wr w3) := Lib.hid (by rw [← HW3.out]; exact balloc (Below.refl _ _) _)
      have X3 : Hid (ChAt w3 wr.heap.size x) := Lib.hid (by rw [← HW3.out]; exact ChAt.new wr x _)
      rw [HW3.out]
      refine (Four_any _ (by omega) (by omega) _).mono ?_
      rintro e w4 ⟨rfl, hb4⟩
      have B4 := Lib.hid (bnext B3.out hb4)
      have X4 := Lib.hid (X3.out.below hb4)
      have d1 := X4.out.c1
      clear hb4
      obtain ⟨w5, HW5⟩ : ∃ y, Hid (w4.alloc (.cells #[.string (str x.2)] 9) = y) := ⟨_, Lib.hid rfl⟩
      obtain ⟨p5, Hp5⟩ : ∃ y, Hid (w4.heap.size = y) := ⟨_, Lib.hid rfl⟩
      have B5 : Hid (Below wr.heap.size wr w5) := Lib.hid (bnext B4.out (by rw [← HW5.out]; exact balloc (Below.refl _ _) _))
      have G5 : Hid (IsG w5 1 encS (some ⟨p5, 0, none⟩) 1 [x.2]) := Lib.hid (by rw [← HW5.out, ← Hp5.out]; exact isG_one w4 x.2 _)
      obtain ⟨T6, w6, hr6, r6, a6⟩ := appG stInf encS_ok (HRr.out.below B5.out) (c := 1) G5.out (by simp; omega) (by decide) 29
      have Hr6 := Lib.hid hr6
      have HB6 : Hid (Below w.heap.size w w6) := Lib.hid (Mod.below (bnext HBr.out B5.out) a6.mod (bnext HBr.out B5.out).size (fun g hg => by have := HNr.out g hg; have := Hp.out; omega))
      have HK6 : Hid (ChAt w6 p (0, [])) := Lib.hid ((HKr.out.below B5.out).later a6.mod (fun hg => by have := HNr.out p hg; omega))
      have HR6 : Hid (RG w6 1 encS T6 ([] :: (l.take (k + 1)).map Prod.snd)) := Lib.hid (by rw [hst.out, List.map_append]; exact r6)
      have HN6 : Hid (∀ g, blk T6 = some g → p < g) := Lib.hid (fun g hg => by
        rcases a6.blk with e | ⟨g', e, h'⟩
        · exact HNr.out g (e ▸ hg)
        · rw [e] at hg; injection hg with hg; have := HKr.out.lt; have := B5.out.size; omega)
      clear hr6 r6 a6
      go_wp2_with (at_builtin; rw [HW5.out, Hp5.out]; refine wpList_append_run rfl (.tmp 53) (.tmp 56) 29 rfl (by exact Hr6.out) ?_)
      go_roundw
      case rel => exact ⟨k + 1, T6, by omega, by go_num, rfl, by rw [hst.out, sects_snoc, HS0.out], HR6, HN6, HK6, HB6⟩
      case measure => simp [intOf]; omega
    · obtain rfl : k = n := by omega
      have htk : Hid (l.take k = l) := Lib.hid (List.take_of_length_le (by have := HL.out; omega))
      rw [htk.out] at HRr ⊢
      have hltI : ¬ (k : Int) < (k : Int) := by omega
      have hlt : Hid (([] :: l.map Prod.snd : List (List UInt8)).length = k + 1) := Lib.hid (by rw [List.length_cons, List.length_map, HL.out])
      obtain ⟨g, off, cap, rfl, hg⟩ := HRr.out.open hlt.out (by omega)
      have hgp : Hid (p < g) := Lib.hid (HNr.out g rfl)
      go_wp2_with fail
      refine (jlines_any _ _ (by omega) h3 (by omega) (by omega) _).mono ?_
      rw [Int.toNat_natCast]
      rintro e w3 ⟨b, rfl, hbs, hb3, hcb⟩
      have Hcb := Lib.hid hcb
      have B3 := Lib.hid (bnext HBr.out hb3)
      have R3 := Lib.hid (HRr.out.below hb3)
      have K3 := Lib.hid (HKr.out.below hb3)
      clear hb3
      have hcb' := hcb
      have hle : (sects l).length ≤ 240 := by rw [sects_length, HL.out]; omega
      have hbg : Hid (b ≠ g) := Lib.hid (by omega)
      clear HKr HRr HBr hbs hg
      obtain ⟨RC, HRC⟩ : ∃ x, Hid (be 8 seq.toNat ++ be 2 k = x) := ⟨_, Lib.hid rfl⟩
      have hrc : RC.length = 10 := by rw [← HRC.out]; simp [be_length]
      rw [HRC.out] at hcb' Hcb
      clear hcb
      go_wp2_with fail
      refine (jline_any b RC signD (sects l) w3 Hcb.out (by rw [hrc]; have : signD.length = 4 := rfl; omega)).mono ?_
      rintro e w4 ⟨rfl, hb4⟩
      have hF : Hid (fillS (signD ++ (RC ++ sects l)) = firstS seq.toNat l) := Lib.hid (by rw [firstS, lineD, ← HRC.out, HL.out, List.append_assoc])
      rw [hF.out]
      obtain ⟨F, HF⟩ : ∃ x, Hid (firstS seq.toNat l = x) := ⟨_, Lib.hid rfl⟩
      rw [HF.out]
      have R4 := Lib.hid (R3.out.below hb4)
      have K4 := Lib.hid (K3.out.below hb4)
      have B4 := Lib.hid (bnext B3.out hb4)
      have C4 : Hid (w4.cell? ⟨b, 0, none⟩ = some (.string (str RC))) := Lib.hid ((hb4.cell (p := ⟨b, 0, none⟩) (lt_of_cell Hcb.out)).trans Hcb.out)
      obtain ⟨x0, x1⟩ := R4.out.cell encS_ok (i := 0) (a := []) rfl (j := 0) (u := .string (str [])) rfl
      simp only [Nat.zero_mul, Nat.add_zero] at x0 x1
      clear hb4 hcb'
      obtain ⟨w5, HW5⟩ : ∃ x, Hid (w4.setCell ⟨g, off, none⟩ (.string (str F)) = x) := ⟨_, Lib.hid rfl⟩
      obtain ⟨ts, Hts⟩ : ∃ x, Hid (textsS seq.toNat l = x) := ⟨_, Lib.hid rfl⟩
      have R5 : Hid (RG w5 1 encS (.slice (some ⟨g, off, none⟩) (k + 1) cap) ts) := Lib.hid (by
        have := RG.set encS_ok R4.out (i := 0) (by simp) F
        rw [← HW5.out, ← Hts.out, textsS, HF.out]
        exact this)
      have M5 : Hid (Mod (· = g) w4 w5) := Lib.hid (by rw [← HW5.out]; exact (Mod.refl _ w4).set1 _)
      have B5 : Hid (Below w.heap.size w w5) := Lib.hid (bmod B4.out M5.out (by have := hgp.out; have := Hp.out; omega))
      have K5 : Hid (ChAt w5 p (0, [])) := Lib.hid (K4.out.later M5.out (by have := hgp.out; omega))
      have C5 : Hid (w5.cell? ⟨b, 0, none⟩ = some (.string (str RC))) := Lib.hid ((M5.out.cell (p := ⟨b, 0, none⟩) (lt_of_cell C4.out) hbg.out).trans C4.out)
      have hmk := fun u => mkCh u (k + 1) (by omega) ((k : Int) + 1) (by omega)
      have hs5 : Hid (w5.heap.size = w4.heap.size) := Lib.hid (by rw [← HW5.out]; simp [World.setCell])
      have htl : Hid (ts.length = k + 1) := Lib.hid (by rw [← Hts.out, textsS, List.length_cons, List.length_map, HL.out])
      clear HF R4 C4 K4 B4 M5 Hcb B3 R3 K3
      go_wp2_with fail
      rw [HW5.out]
      clear hmk x0 x1 HW5
      obtain ⟨w6, HW6⟩ : ∃ x, Hid (w5.alloc (.cells (madeCells (encC (0, [])).toArray ((k + 1) * 2)) 32) = x) := ⟨_, Lib.hid rfl⟩
      obtain ⟨q, Hq⟩ : ∃ x, Hid (w4.heap.size = x) := ⟨_, Lib.hid rfl⟩
      have Hq5 : Hid (w5.heap.size = q) := Lib.hid (hs5.out.trans Hq.out)
      have R6 : Hid (RG w6 2 encC (.slice (some ⟨q, 0, none⟩) (k + 1) (k + 1)) (List.replicate (k + 1) (0, []))) := Lib.hid (by rw [← HW6.out, ← Hq5.out]; exact RG.made encC_ok (0, []) w5 (k + 1) (by omega) _)
      have B6 : Hid (Below w5.heap.size w5 w6) := Lib.hid (by rw [← HW6.out]; exact balloc (Below.refl _ _) _)
      rw [HW6.out, Hq.out]
      go_loopw [73] (fun i wr => ∃ (j : Nat), j ≤ k + 1 ∧ i = .int .i64 j ∧ Hid (RG wr 2 encC (.slice (some ⟨q, 0, none⟩) (k + 1) (k + 1)) (numbered 1 (ts.take j) ++ List.replicate (k + 1 - j) (0, []))) ∧ Hid (Mod (· = q) w6 wr)) (fun i _ => k + 1 - (intOf i).toNat)
      case atStart => exact ⟨0, Nat.zero_le _, rfl, R6, Lib.hid (Mod.refl _ _)⟩
      case round =>
        obtain ⟨j, hj, rfl, HRj, HMj⟩ := hrel
        have hgq : Hid (g < q) := Lib.hid (by have := R5.out.lt (g := g) rfl; have := Hq5.out; omega)
        have R7 := Lib.hid ((R5.out.below B6.out).later HMj.out (fun g' hg' e => by simp only [blk, Option.some.injEq] at hg'; have := hgq.out; omega))
        by_cases hltj : j < k + 1
        · obtain ⟨x, hx⟩ : ∃ x, ts[j]? = some x := ⟨_, List.getElem?_eq_getElem (by have := htl.out; omega)⟩
          have hst : Hid (ts.take (j + 1) = ts.take j ++ [x]) := Lib.hid (by
            obtain ⟨hk', he⟩ := List.getElem?_eq_some_iff.1 hx
            rw [List.take_succ_eq_append_getElem hk', he])
          have hnl : Hid ((numbered 1 (ts.take j)).length = j) := Lib.hid (by rw [numbered_length, List.length_take]; have := htl.out; omega)
          obtain ⟨c0, _⟩ := R7.out.cell encS_ok hx (j := 0) (u := .string (str x)) rfl
          have hrep : (numbered 1 (ts.take j) ++ List.replicate (k + 1 - j) ((0, []) : Ch))[j]? = some (0, []) := by
            rw [List.getElem?_append_right (by rw [hnl.out]; exact Nat.le_refl _), hnl.out, Nat.sub_self, List.getElem?_replicate, if_pos (by omega)]
          obtain ⟨d0, f0⟩ := HRj.out.cell encC_ok hrep (j := 0) (u := .int .i64 0) rfl
          obtain ⟨d1, f1⟩ := HRj.out.cell encC_ok hrep (j := 1) (u := .string (str [])) rfl
          simp only [Nat.mul_one, Nat.add_zero, Nat.zero_add] at c0 d0 f0 d1 f1
          have hltI : (j : Int) < (k : Int) + 1 := by omega
          have R8 : Hid (RG ((wr.setCell ⟨q, j * 2, none⟩ (.int .i64 ((j : Int) + 1))).setCell ⟨q, j * 2 + 1, none⟩ (.string (str x))) 2 encC (.slice (some ⟨q, 0, none⟩) (k + 1) (k + 1)) (numbered 1 (ts.take (j + 1)) ++ List.replicate (k + 1 - (j + 1)) (0, []))) := Lib.hid (by
            have h := RG.set encC_ok HRj.out (i := j) (by rw [List.length_append, hnl.out, List.length_replicate]; omega) ((j : Int) + 1, x)
            rw [hst.out, numbered_snoc, show (1 : Int) + ((ts.take j).length : Int) = (j : Int) + 1 by rw [List.length_take]; have := htl.out; omega]
            rw [List.set_append_right _ _ (by rw [hnl.out]; exact Nat.le_refl _), hnl.out, Nat.sub_self, show k + 1 - j = (k + 1 - (j + 1)) + 1 by omega, List.replicate_succ, List.set_cons_zero] at h
            rw [List.append_assoc, List.singleton_append]
            rw [Nat.zero_add] at h
            exact h)
          have M8 : Hid (Mod (· = q) w6 ((wr.setCell ⟨q, j * 2, none⟩ (.int .i64 ((j : Int) + 1))).setCell ⟨q, j * 2 + 1, none⟩ (.string (str x)))) := Lib.hid ((HMj.out.set1 _).set1 _)
          clear hx hrep
          go_wp2
          go_roundw
          case rel => exact ⟨j + 1, by omega, by go_num, R8, M8⟩
          case measure => simp [intOf]; omega
        · obtain rfl : j = k + 1 := by omega
          have hltI : ¬ ((k + 1 : Nat) : Int) < (k : Int) + 1 := by omega
          have H5 : Hid (wr.heap.size = wr.heap.size) := Lib.hid rfl
          go_wp2_with fail
          rw [List.take_of_length_le (by rw [htl.out]; exact Nat.le_refl _), Nat.sub_self, List.replicate_zero, List.append_nil] at HRj
          have B7 : Hid (Below w.heap.size w wr) := Lib.hid (bmod (bnext B5.out B6.out) HMj.out (by have := B5.out.size; have := Hq5.out; omega))
          have K7 : Hid (ChAt wr p (0, [])) := Lib.hid ((K5.out.below B6.out).later HMj.out (fun e => by have := hgp.out; have := hgq.out; omega))
          have C7 : Hid (wr.cell? ⟨b, 0, none⟩ = some (.string (str RC))) := Lib.hid (by
            have hb5 := lt_of_cell C5.out
            have h6 := (B6.out.cell (p := ⟨b, 0, none⟩) hb5).trans C5.out
            exact (HMj.out.cell (p := ⟨b, 0, none⟩) (lt_of_cell h6) (by have := Hq5.out; show b ≠ q; omega)).trans h6)
          have hw : Hid (∀ s ∈ ts, s.length ≤ maxLen) := Lib.hid (fun s hs => by
            rw [← Hts.out, textsS] at hs
            have : s.length ≤ 600 := by
              rcases List.mem_cons.1 hs with rfl | hs
              · rw [firstS_length _ _ (by rw [HL.out]; exact hn60)]; omega
              · obtain ⟨c, hc, rfl⟩ := List.mem_map.1 hs
                rw [(hrow.out c hc).2.2]
                omega
            unfold maxLen
            omega)
          have I7 := Lib.hid ((R7.out.is encS_ok).1.strs hw.out)
          refine (Row_any _ _ cap _ _ I7.out (HT.out.below B7.out)).mono ?_
          rintro e w8 ⟨rfl, hb8⟩
          obtain ⟨cr, Hcr⟩ : ∃ x, Hid (rows 0#32 ts = x) := ⟨_, Lib.hid rfl⟩
          rw [Hcr.out]
          have u0 := uv_lo cr
          have u1 := uv_hi cr
          have R8 := Lib.hid (HRj.out.below hb8)
          have B8 := Lib.hid (bnext B7.out hb8)
          have K8 := Lib.hid (K7.out.below hb8)
          have C8 : Hid (w8.cell? ⟨b, 0, none⟩ = some (.string (str RC))) := Lib.hid ((hb8.cell (p := ⟨b, 0, none⟩) (lt_of_cell C7.out)).trans C7.out)
          clear hb8 I7 hw C7 K7 B7 HRj
          go_wp2_with fail
          refine (Four_any _ u0 (by omega) _).mono ?_
          rw [show (uv cr).toNat = cr.toNat from rfl]
          rintro e w9 ⟨rfl, hb9⟩
          have R9 := Lib.hid (R8.out.below hb9)
          have B9 := Lib.hid (bnext B8.out hb9)
          have K9 := Lib.hid (K8.out.below hb9)
          have C9 : Hid (w9.cell? ⟨b, 0, none⟩ = some (.string (str RC))) := Lib.hid ((hb9.cell (p := ⟨b, 0, none⟩) (lt_of_cell C8.out)).trans C8.out)
          clear hb9 R8 B8 K8 C8
          have h4 := be_length 4 cr.toNat
          go_wp2_with fail
          refine (jline_any b RC signC (be 4 cr.toNat) w9 C9.out (by rw [hrc, h4]; have : signC.length = 4 := rfl; omega)).mono ?_
          have hM : Hid (fillS (signC ++ (RC ++ be 4 cr.toNat)) = markS seq.toNat l) := Lib.hid (by rw [markS, lineC, ← HRC.out, HL.out, Hts.out, Hcr.out, List.append_assoc])
          rw [hM.out]
          obtain ⟨MK, HMK⟩ : ∃ x, Hid (markS seq.toNat l = x) := ⟨_, Lib.hid rfl⟩
          rw [HMK.out]
          rintro e wa ⟨rfl, hba⟩
          have Ra := Lib.hid (R9.out.below hba)
          have Ba := Lib.hid (bnext B9.out hba)
          have Ka := Lib.hid (K9.out.below hba)
          clear hba R9 B9 K9 C9
          have c0 := Ka.out.c0
          have c1 := Ka.out.c1
          have f0 := Ka.out.f0
          have f1 := Ka.out.f1
          have hwr : IntKind.i64.wrap (size - 1) = size - 1 := hsz.out
          go_wp2_with fail
          obtain ⟨wb, HWb⟩ : ∃ x, Hid (setC wa p (size - 1, MK) = x) := ⟨_, Lib.hid rfl⟩
          have hwb := HWb.out
          unfold setC at hwb
          rw [hwb]
          have Kb : Hid (ChAt wb p (size - 1, MK)) := Lib.hid (by rw [← HWb.out]; exact Ka.out.set _)
          have Bb : Hid (Below w.heap.size w wb) := Lib.hid (by rw [← HWb.out]; exact setC_below Ba.out (by have := Hp.out; omega) _)
          have Rb : Hid (RG wb 2 encC (.slice (some ⟨q, 0, none⟩) (k + 1) (k + 1)) (numbered 1 ts)) := Lib.hid (by
            rw [← HWb.out]
            exact Ra.out.later (setC_mod wa p _) (fun g' hg' e => by simp only [blk, Option.some.injEq] at hg'; have := hgp.out; have := hgq.out; omega))
          have e0 := Kb.out.c0
          have e1 := Kb.out.c1
          refine bodyPost_ret (v := .tuple #[.slice (some ⟨q, 0, none⟩) (k + 1) (k + 1), chV (size - 1, MK), .int .i64 0]) ?_ rfl ⟨some ⟨q, 0, none⟩, k + 1, by rw [HMK.out], by rw [Hts.out]; exact Rb.out, fun g' hg' => by simp only [blk, Option.some.injEq] at hg'; have := hgp.out; have := hgq.out; have := Hp.out; omega, Bb.out⟩
          rw [results_tct rfl]
          go_simp
end Go.Proofs.YtgncmgchoogmpaaDoor
