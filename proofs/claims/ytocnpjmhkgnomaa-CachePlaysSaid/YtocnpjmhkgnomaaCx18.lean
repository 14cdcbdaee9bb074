/- What a cache tells of the sectors between two, at this translation. -/
import Derived.Test.YtocnpjmhkgnomaaCw18
namespace Go.Proofs.Ytocnpjmhkgnomaa
open Go.RowKit Go.MapKept Go.Sort

theorem within_nil (w : World) (x y : Int) :
    Calls Try.prog 29 #[.pointer none, .int .i64 x, .int .i64 y] w fun e w' => e = .returned (.slice none 0 0) ∧ w = w' := by
  go_enter Try.func29, Try.ntmps29
  go_wp2
  go_step3
  go_wp2
  rw [Exit.noGoto_ret]
  go_ret
  exact ⟨rfl, rfl⟩
/-- What is collected while the map is gone over. -/
structure Got (w : World) (g r : Nat) (l : List Li) (a b : Int) (left : Lit → Bool) (wr : World) (v : Value) (ss : List Int) : Prop where
  rise : Rise l
  row : RG wr 1 encI v ss
  new : ∀ q, blk v = some q → r < q
  nd : ss.Nodup
  mem : ∀ k, k ∈ ss ↔ (inR a b k = true ∧ mapL l k ≠ none) ∧ left (.int .i64 k) = false
  map : IsMap wr g l.length (mapL l)
  below : Below w.heap.size w wr
theorem Got.le {w : World} {g r : Nat} {l : List Li} {a b : Int} {left : Lit → Bool} {wr : World} {v : Value} {ss : List Int} (h : Got w g r l a b left wr v ss) : ss.length ≤ l.length := by
  have hp : ss.Perm ((l.map (·.1)).filter fun k => decide (k ∈ ss)) := by
    refine (List.perm_ext_iff_of_nodup h.nd ?_).2 fun k => ?_
    · exact (List.pairwise_map.2 (h.rise.imp fun {a b} h => by omega)).filter _
    · rw [List.mem_filter, decide_eq_true_eq]
      exact ⟨fun hk => ⟨mapL_ne.1 ((h.mem k).1 hk).1.2, hk⟩, fun hk => hk.2⟩
  rw [hp.length_eq]
  refine Nat.le_trans (List.length_filter_le _ _) ?_
  simp
set_option maxRecDepth 100000 in
set_option maxHeartbeats 2000000 in
theorem within_any {w : World} {b : Nat} {m : Option Nat} {l : List Li} (h : Ca w b m l) (x y : Int) (hn : l.length ≤ 1000) :
    Calls Try.prog 29 #[.pointer (some ⟨b, 0, none⟩), .int .i64 x, .int .i64 y] w fun e w' => ∃ A n c, e = .returned (.slice A n c) ∧ IsG w' 1 encI A n (keysL l x y) ∧ (∀ g off, A = some ⟨g, off, none⟩ → w.heap.size ≤ g) ∧ Below w.heap.size w w' := by
  have hc := h.cell
  cases m with
  | none =>
    have e0 : l = [] := h.no rfl
    subst e0
    clear h
    have hrg := run_range_nilMap (P := Try.prog) w TM 3 59 Try.underlying52
    have hnx : ∀ ty, (Instr.next (.pointer (some ⟨w.heap.size, 0, none⟩)) false ty).run Try.prog (w.alloc (.mapIter none 0 #[] 0)) = _ := fun ty => run_next_nilMap w ty 0 0 #[]
    go_enter Try.func29, Try.ntmps29
    go_wp2
    go_step3
    go_wp2
    go_step3
    go_wp2_with fail
    refine wp_loop_rounds 1 ?_
    rw [rounds_succ]
    go_wp2_with fail
    refine (Sort_any (RG.nil _ 1 encI) (by simp)).mono ?_
    rintro e w2 ⟨rfl, hg, hm⟩
    have Hm := Lib.hid hm
    have Hg := Lib.hid hg
    clear hg hm
    go_wp2
    rw [Exit.noGoto_ret]
    go_ret
    refine ⟨none, 0, 0, rfl, ⟨by simp [keysL], Nat.zero_le _, fun h => by omega⟩, (fun _ _ e => by cases e), ?_⟩
    exact bnext (balloc (Below.refl _ _) _) (Hm.out.to_below fun _ _ e => by cases e)
  | some g =>
    have HR := Lib.hid h.rise
    have hm := h.map g rfl
    have HM := Lib.hid hm
    have Hg := Lib.hid hm.lt
    clear h
    obtain ⟨D, hown, hhas⟩ := hm.owns
    have Hhas := Lib.hid hhas
    clear hhas hm
    obtain ⟨r, Hr⟩ : ∃ r, Hid (w.heap.size = r) := ⟨_, Lib.hid rfl⟩
    go_enter Try.func29, Try.ntmps29
    go_wp2
    go_step3
    go_wp2
    go_step3
    go_wp2_with (first | (at_range; refine wpList_range_own _ rfl _ TM rfl 3 59 keyI Try.underlying52 any0 g l.length D rfl hown ?_; intro w0 hrg0 hg0 hs0) | fail)
    go_frame
    rw [Hr.out] at hrg0 ⊢
    have hb0 : Below w.heap.size w w0 := (grown_mod hg0).to_below fun _ _ e => by cases e
    have G0 : Hid (Got w g r l x y (Maps.has D) w0 (.slice none 0 0) []) := Lib.hid
      ⟨HR.out, RG.nil _ _ _, (fun q e => by cases e), List.nodup_nil, fun k => ⟨(fun e => by cases e), fun ⟨⟨_, h2⟩, h3⟩ => by rw [Hhas.out k h2] at h3; cases h3⟩, HM.out.later (grown_mod hg0) (fun e => by cases e), hb0⟩
    have HRG0 := Lib.hid hrg0
    clear hown hg0 hs0 hb0 hrg0
    go_loopw [7] (fun v wr => ∃ left cnt ss, v = v ∧ Hid (wr.ranges Try.prog 3 any0 g r l.length D left cnt) ∧ Hid (Got w g r l x y left wr v ss)) (fun _ wr => wr.rangeLeft g r)
    case atStart => exact ⟨_, _, _, rfl, HRG0, G0⟩
    case round =>
      obtain ⟨left, cnt, ss, _, HRG, HG⟩ := hrel
      obtain ⟨A, c0, rfl⟩ := HG.out.row.shape
      have hlen : ss.length ≤ 1000 := Nat.le_trans HG.out.le hn
      have hrg := HRG.out
      have HRne := Lib.hid hrg.ne
      have HRlt := Lib.hid hrg.lt
      have HRle := Lib.hid hrg.left_eq
      go_wp2_with (first | (at_next; refine wpList_next_ranges _ rfl _ rfl 3 keyI any0 (Value.int .i64) (fun v => v) (fun key kl hkey => by obtain ⟨x, rfl, _⟩ := Maps.keyOf_int_inv Try.underlying3 hkey; exact ⟨x, rfl⟩) (fun v _ _ => ⟨v, rfl⟩) g r l.length D left cnt rfl hrg ?_ ?_) | fail)
      · intro _ hl0
        have Hl0 := Lib.hid hl0
        clear hl0 hrg
        go_wp2_with fail
        refine (Sort_any HG.out.row (by omega)).mono ?_
        rintro e w2 ⟨rfl, hg2, hm2⟩
        have Hg2 := Lib.hid hg2
        have Hm2 := Lib.hid hm2
        clear hg2 hm2
        go_wp2
        rw [Exit.noGoto_ret]
        go_ret
        refine ⟨A, ss.length, c0, rfl, ?_, fun q off e => ?_, ?_⟩
        · rw [← sort_keys HR.out HG.out.nd (fun k => by rw [HG.out.mem k]; simp [Hl0.out])]
          exact Hg2.out
        · have := HG.out.new q (by rw [e]; rfl)
          rw [Hr.out]
          omega
        · refine Hm2.out.below HG.out.below HG.out.below.size (fun i hi => ?_)
          have := HG.out.new i hi
          rw [Hr.out]
          omega
      · intro k cv kl yv yw w1 cnt1 hkey hlk _ _ hrg1 hlt hg1 hs1 hen
        obtain ⟨k', ek, rfl, hwk⟩ := Maps.keyOf_int_inv Try.underlying3 hkey
        cases ek
        have hfk := rng_has hrg HG.out.map hlk
        have M1 : Mod (· = r) wr w1 := (grown_mod hg1).mono fun x _ e => (Option.some.inj e).symm
        have hnin : k ∉ ss := fun hk => by have := ((HG.out.mem k).1 hk).2; rw [hlk] at this; cases this
        have HB1 : Hid (RG w1 1 encI (.slice A ss.length c0) ss ∧ IsMap w1 g l.length (mapL l) ∧ Below w.heap.size w w1) := Lib.hid
          ⟨HG.out.row.later M1 (fun q hq e => by have := HG.out.new q hq; omega), HG.out.map.later M1 (fun e => HRne.out e.symm), M1.below HG.out.below HG.out.below.size (fun i hi => by rw [hi, ← Hr.out]; exact Nat.le_refl _)⟩
        have HRG1 := Lib.hid hrg1
        have hmem : ∀ z, (z ∈ ss ∨ z = k) ↔ ((inR x y z = true ∧ mapL l z ≠ none) ∧ (left (.int .i64 z) && !(Lit.int .i64 z).sameKey (.int .i64 k)) = false) ∨ (z = k ∧ inR x y k = false) := by
          intro z
          rw [HG.out.mem z]
          by_cases ez : z = k
          · subst ez
            rw [sameI z z hwk]
            simp [hfk]
          · by_cases hz : mapL l z = none
            · simp [hz, ez]
            · have hzw : (Lit.int .i64 z).wf = true := HG.out.map.keyWf (v := (mapL l z).get (by simpa [Option.isSome_iff_ne_none] using hz)) (by simp)
              rw [sameI z k hzw]
              simp [ez]
        have HME := Lib.hid hmem
        have HNI := Lib.hid hnin
        have HLT := Lib.hid hlt
        have HWS : Hid (w1.rangeLeft g r = cnt1) := Lib.hid hrg1.left_eq
        clear hrg hkey hlk hg1 hs1 M1 hfk hmem hnin hrg1 hlt
        by_cases hin : inR x y k = true
        · have hin1 : ¬ k < x := by simp [inR] at hin; omega
          have hin2 : k < y := by simp [inR] at hin; omega
          have HIN := Lib.hid hin
          clear hin
          obtain ⟨W, HW⟩ : ∃ W, Hid (w1.alloc (.cells #[.int .i64 k] 3) = W) := ⟨_, Lib.hid rfl⟩
          obtain ⟨p, Hp⟩ : ∃ p, Hid (w1.heap.size = p) := ⟨_, Lib.hid rfl⟩
          have hbW : Below w1.heap.size w1 W := by rw [← HW.out]; exact balloc (Below.refl _ _) _
          have hI : IsG W 1 encI (some ⟨p, 0, none⟩) 1 [k] := by rw [← HW.out, ← Hp.out]; exact i_one w1 k
          obtain ⟨v2, w2, hr2, r2, a2⟩ := appG iInf encI_ok (HB1.out.1.below hbW) (c := 1) hI (by omega) (by decide) 64
          have HR2 := Lib.hid hr2
          have hbl : ∀ q, blk (.slice A ss.length c0) = some q → r < q := HG.out.new
          have N1 : Hid (w2.ranges Try.prog 3 any0 g r l.length D (fun z => left z && !z.sameKey (.int .i64 k)) cnt1) := Lib.hid (by
            have h1 := HRG1.out.alloc (.cells #[.int .i64 k] 3)
            rw [HW.out] at h1
            exact h1.kept (mod_grown (row := blk (.slice A ss.length c0)) (a2.mod.mono fun _ _ e => e)) (fun e => by have := hbl g e.symm; have := Hg.out; rw [Hr.out] at this; omega) (fun e => by have := hbl r e.symm; omega))
          have N2 : Hid (Got w g r l x y (fun z => left z && !z.sameKey (.int .i64 k)) w2 v2 (ss ++ [k])) := Lib.hid (by
            have hMW : Mod (fun q => blk (.slice A ss.length c0) = some q) w1 w2 := ((Mod.of_below (S := fun _ => False) hbW).mono fun _ _ e => e.elim).trans a2.mod
            refine ⟨HR.out, r2, fun q e => ?_, ?_, fun z => ?_, HB1.out.2.1.later hMW (fun e => by have := hbl g e; have := Hg.out; rw [Hr.out] at this; omega), hMW.below HB1.out.2.2 HB1.out.2.2.size (fun i hi => by have := hbl i hi; rw [Hr.out]; omega)⟩
            · rcases a2.blk with e2 | ⟨q2, e2, hq2⟩
              · exact hbl q (e2 ▸ e)
              · rw [e2] at e
                obtain rfl := Option.some.inj e
                have := HB1.out.2.2.size
                have h3 := hbW.size
                have h4 := HRlt.out
                have h5 : r < w1.heap.size := by have := HRG1.out.lt; exact this
                omega
            · exact List.nodup_append.2 ⟨HG.out.nd, by simp, fun a ha b hb => by simp at hb; subst hb; rintro rfl; exact HNI.out ha⟩
            · rw [List.mem_append, List.mem_singleton, HME.out z]
              constructor
              · rintro (h | ⟨rfl, h⟩)
                · exact h
                · rw [HIN.out] at h; cases h
              · exact .inl)
          clear hbW hI hr2 r2 a2 hbl
          obtain ⟨A2, c2, rfl⟩ : ∃ A2 c2, v2 = .slice A2 (ss.length + 1) c2 := by
            obtain ⟨A2, c2, e⟩ := N2.out.row.shape
            exact ⟨A2, c2, by rw [e]; simp⟩
          go_wp2_with (first | (at_builtin; rw [HW.out, Hp.out]; refine wpList_append_run rfl (.tmp 28) (.tmp 30) 64 rfl (by exact HR2.out) ?_) | fail)
          go_roundw
          case rel => exact ⟨_, _, _, by first | rfl | trivial, N1, N2⟩
          case measure => rw [N1.out.left_eq, HRle.out]; exact HLT.out
        · have hin' : inR x y k = false := by simpa using hin
          have N2 : Hid (Got w g r l x y (fun z => left z && !z.sameKey (.int .i64 k)) w1 (.slice A ss.length c0) ss) := Lib.hid
            ⟨HR.out, HB1.out.1, HG.out.new, HG.out.nd, fun z => by
              have h := HME.out z
              constructor
              · intro hz
                rcases h.1 (.inl hz) with h | ⟨rfl, _⟩
                · exact h
                · exact absurd hz HNI.out
              · intro hz
                rcases h.2 (.inl hz) with h | rfl
                · exact h
                · exact absurd hz.1.1 (by rw [hin']; simp), HB1.out.2.1, HB1.out.2.2⟩
          by_cases hk1 : k < x
          · clear hin hin'
            go_wp2
            go_roundw
            case rel => exact ⟨_, _, _, by first | rfl | trivial, HRG1, N2⟩
            case measure => rw [HRG1.out.left_eq, HRle.out]; exact HLT.out
          · have hk2 : ¬ k < y := fun h => by simp [inR] at hin'; omega
            clear hin hin'
            go_wp2
            go_roundw
            case rel => exact ⟨_, _, _, by first | rfl | trivial, HRG1, N2⟩
            case measure => rw [HRG1.out.left_eq, HRle.out]; exact HLT.out
end Go.Proofs.Ytocnpjmhkgnomaa
