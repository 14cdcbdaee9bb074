/- Those that are told as taken rise, are taken, and are as many as are counted; a bitmap that is made of them alone is the same: BitmapLists. -/
import Derived.Test.YtnfnhknahdkcjaaRows
import Derived.Test.YtnfnhknahdkcjaaRef03b
namespace Go.Proofs.Ytnfnhknahdkcjaa.bitmapLists
open Go.RowKit Go.ChangeShapes Go.WideShapes Go.ChangeAt
open Go.ChangeMaps (open_string shut_string)

theorem short_len (a : List UInt8) : (a.take 100).length ≤ 100 := by simp; omega

/-- A text that has those of a text's taken bits that lie in a list's first so many. -/
structure Some (l : List UInt8) (k : Nat) (t : List UInt8) : Prop where
  length : t.length = l.length
  bits : ∀ j, Bm.bit t j = true ↔ j ∈ (Bm.each l).take k
theorem Some.start (l : List UInt8) (hl : l.length ≤ 100) : Some l 0 (zeros (8 * (l.length : Int))) := by
  refine ⟨by rw [zeros_length]; unfold size; omega, fun j => ?_⟩
  rw [zeros, Bm.bit_zeros]
  simp
theorem Some.set {l : List UInt8} {k : Nat} {t : List UInt8} (h : Some l k t) (hk : k < (Bm.each l).length) : Some l (k + 1) (Bm.setI t (((Bm.each l)[k] : Nat) : Int) true) := by
  have hm : (Bm.each l)[k] < 8 * l.length := (Bm.mem_upto.1 (List.getElem_mem hk)).1
  refine ⟨by rw [Bm.setI_length, h.length], fun j => ?_⟩
  rw [Bm.setI_nat, Bm.bit_set, h.length, List.take_succ_eq_append_getElem hk, List.mem_append, List.mem_singleton, ← h.bits j]
  by_cases e : j = (Bm.each l)[k]
  · simp [e, hm]
  · simp [e]
theorem Some.done {l : List UInt8} {k : Nat} {t : List UInt8} (h : Some l k t) (hk : (Bm.each l).length ≤ k) : t = l := by
  apply Bm.ext h.length
  intro i hi
  rw [h.length] at hi
  rw [Bool.eq_iff_iff, h.bits i, List.take_of_length_le hk]
  simp [Bm.each, Bm.mem_upto, hi]
theorem rises (l : List UInt8) (k : Nat) (hk : k + 1 < (Bm.each l).length) : (Bm.each l)[k]'(by omega) < (Bm.each l)[k + 1] :=
  List.pairwise_iff_getElem.1 (Bm.upto_sorted l (8 * l.length)) k (k + 1) (by exact Nat.lt_of_succ_lt hk) hk (by omega)
theorem ints_getD (l : List UInt8) (k : Nat) (hk : k < (Bm.each l).length) : (ints (Bm.each l)).getD k 0 = (((Bm.each l)[k] : Nat) : Int) := by
  simp [ints, List.getD, hk]
set_option maxRecDepth 100000 in
set_option maxHeartbeats 1000000 in
theorem walk (a : List UInt8) (w : World) (_ha : a.length ≤ maxLen) :
    Calls Try.prog 9 #[.string (str a)] w fun e w' => e = .returned (.bool true) ∧ Below w.heap.size w w' := by
  have hl := short_len a
  go_enter Try.func9, Try.ntmps9
  go_wp2_with fail
  refine (awake_any _).mono ?_
  rintro e w1 ⟨rfl, hb1⟩
  have Hb1 := Lib.hid hb1
  clear hb1
  go_wp2_with fail
  refine (short_any _ _).mono ?_
  rintro e w2 ⟨rfl, rfl⟩
  obtain ⟨l, Hl⟩ : ∃ l, Hid (a.take 100 = l) := ⟨_, Lib.hid rfl⟩
  rw [Hl.out] at hl ⊢
  have Hst := Lib.hid (Some.start l hl)
  have hcl := Bm.count_le l
  go_wp2_with fail
  refine (Each_any _ (by omega) _).mono ?_
  rintro e w3 ⟨x, n, c, rfl, hx, hb3⟩
  have Hb3 := Lib.hid (bnext Hb1.out hb3)
  have Hn := Lib.hid (show (Bm.each l).length = n by have := hx.length; simpa [ints] using this)
  have hn8 : n ≤ 800 := by have := Hn.out; unfold Bm.count at hcl; omega
  have Hx := Lib.hid hx
  clear hb3 hx hcl
  go_wp2_with fail
  refine (New_any _ _).mono ?_
  rintro e w4 ⟨rfl, hb4⟩
  have Hb4 := Lib.hid (bnext Hb3.out hb4)
  have Hx4 := Lib.hid (Hx.out.below hb4)
  clear hb4
  go_wp2_with fail
  go_loopw [5, 6] (fun v i wr => ∃ (t : List UInt8) (k : Nat), v = .string (str t) ∧ i = .int .i64 k ∧ k ≤ n ∧ Hid (Some l k t) ∧ Below w4.heap.size w4 wr) (fun _ i _ => n - (intOf i).toNat)
  case atStart => exact ⟨_, 0, rfl, rfl, Nat.zero_le _, Hst, Below.refl _ _⟩
  case round =>
    obtain ⟨t, k, rfl, rfl, hk, Hs, hbel⟩ := hrel
    have Hbel := Lib.hid hbel
    clear hbel
    have htl : t.length ≤ 500 := by rw [Hs.out.length]; omega
    by_cases hlt : k < n
    · obtain ⟨p, o, rfl, hc⟩ := (Hx4.out.below Hbel.out).cells (by omega)
      have hlt' : k < (Bm.each l).length := by rw [Hn.out]; exact hlt
      have hg := ints_getD l k hlt'
      have hck := hc k hlt
      rw [hg] at hck
      have hm8 : (Bm.each l)[k] < 8 * l.length := (Bm.mem_upto.1 (List.getElem_mem hlt')).1
      have Hmb := Lib.hid (Bm.mem_upto.1 (List.getElem_mem hlt')).2
      have Hset := Lib.hid (Hs.out.set hlt')
      have Hri : 0 < k → ∃ y : Nat, wr.cell? ⟨p, o + (k - 1), none⟩ = some (.int .i64 (y : Int)) ∧ y < (Bm.each l)[k] := by
        intro h0
        obtain ⟨j, rfl⟩ : ∃ j, k = j + 1 := ⟨k - 1, by omega⟩
        exact ⟨_, by rw [Nat.add_sub_cancel, hc j (by omega), ints_getD l j (by omega)], rises l j hlt'⟩
      have HRi := Lib.hid Hri
      obtain ⟨z, Hz⟩ : ∃ z, Hid ((Bm.each l)[k] = z) := ⟨_, Lib.hid rfl⟩
      rw [Hz.out] at hck hm8 Hset HRi
      have Hmz : Hid (Bm.bit l z = true) := Lib.hid (by rw [← Hz.out]; exact Hmb.out)
      clear hc hg Hri Hmb
      have i0 : 0 ≤ (k : Int) := by omega
      have i1 : (k : Int) < (n : Int) := by omega
      have hHas : ∀ w, Calls Try.prog 22 #[.string (str l), .int .i64 z] w fun e w' => e = .returned (.bool true) ∧ w' = w := by
        intro w
        have h := Has_in l (by omega) z hm8 w
        rw [Hmz.out] at h
        exact h.mono fun _ _ ⟨h1, h2⟩ => ⟨h1, h2.symm⟩
      have HHas := Lib.hid hHas
      clear hHas
      by_cases h0 : 0 < k
      · obtain ⟨y, hy, hyz⟩ := HRi.out h0
        have g0 : decide (0 < (k : Int)) = true := by simp; omega
        have g1 : IntKind.i64.wrap ((k : Int) - 1) = (k : Int) - 1 := IntWalk.i64_in _ (by omega)
        have g2 : 0 ≤ (k : Int) - 1 := by omega
        have g3 : (k : Int) - 1 < (n : Int) := by omega
        have g4 : ((k : Int) - 1).toNat = k - 1 := by omega
        have g5 : decide (z ≤ y) = false := by simp; omega
        go_wp2_with fail
        go_quiet ((go_at_call 22; exact Calls.quiet_of_same (HHas.out _)))
        clear g0 g1 g2 g3 g4 g5 hy
        have hq2 : (wr.drewN nq).cell? ⟨p, o + k, none⟩ = some (.int .i64 ((z : Nat) : Int)) := hck
        have Hq := Lib.hid (show Below w4.heap.size w4 (wr.drewN nq) from Hbel.out.trans ((below_drewN wr nq).mono Hbel.out.size))
        clear hck Hx Hx4 HRi HHas Hmz
        generalize wr.drewN nq = wq at hq2 Hq ⊢
        go_wp2_with fail
        refine (Set_any _ (by omega) _ _ _).mono ?_
        rintro e w6 ⟨rfl, hb6⟩
        have Hb6 := Lib.hid (bnext Hq.out hb6)
        clear hb6
        go_wp2
        go_roundw
        case rel => exact ⟨_, k + 1, rfl, by go_num, by omega, Hset, Hb6.out⟩
        case measure => simp [intOf]; omega
      · have g0 : decide (0 < (k : Int)) = false := by simp; omega
        go_wp2_with fail
        go_quiet ((go_at_call 22; exact Calls.quiet_of_same (HHas.out _)))
        have hq2 : (wr.drewN nq).cell? ⟨p, o + k, none⟩ = some (.int .i64 ((z : Nat) : Int)) := hck
        have Hq := Lib.hid (show Below w4.heap.size w4 (wr.drewN nq) from Hbel.out.trans ((below_drewN wr nq).mono Hbel.out.size))
        clear g0 hck Hx Hx4 HRi HHas Hmz
        generalize wr.drewN nq = wq at hq2 Hq ⊢
        go_wp2_with fail
        refine (Set_any _ (by omega) _ _ _).mono ?_
        rintro e w6 ⟨rfl, hb6⟩
        have Hb6 := Lib.hid (bnext Hq.out hb6)
        clear hb6
        go_wp2
        go_roundw
        case rel => exact ⟨_, k + 1, rfl, by go_num, by omega, Hset, Hb6.out⟩
        case measure => simp [intOf]; omega
    · have Hd := Lib.hid (Hs.out.done (by rw [Hn.out]; omega))
      have hcn : Bm.count l = n := by rw [Bm.count, Hn.out]
      have Hcn := Lib.hid hcn
      clear hcn
      rw [Hd.out]
      go_wp2_with fail
      refine (Count_any _ (by omega) _).mono ?_
      rintro e w6 ⟨rfl, rfl⟩
      rw [Hcn.out]
      go_wp2
      go_ret
      exact ⟨rfl, bnext Hb4.out Hbel.out⟩
theorem own : ownKnob Try.prog.godebug = none := by kernel_rfl
theorem laidOut : laidOutB Try.prog = true := by kernel_rfl
set_option maxRecDepth 100000 in
theorem lifted (os : Os) (started : os.Started) (H : Type) (enc : TypeId × Value → H) :
    ReturnsInHanded {} Try.checked os 9 .any (Rows.bitmapListsSpec.pre6 enc Try.prog Try.f9 Rows.bitmapListsRow.domain false) (Rows.bitmapListsSpec.post enc Try.prog Try.f9 false true false false) := by
  refine returnsInHanded_of_change (C := Try.checked) own started (by kernel_rfl) Try.func9
    (ChangeSpec.witness6 (enc := enc) (C := Try.checked) false ⟨#[], #[.string ByteArray.empty], []⟩ 8 (by kernel_rfl) (by kernel_rfl) (by kernel_rfl) (by kernel_rfl)) ?_
  intro W base args ds gs before hval0 hW hcnd _
  have hval : ∀ (j : Nat) t v, Try.f9.params[j]? = some t → args[j]? = some v → Value.okWide Try.prog W .any base t v := hval0
  have hW' := hW
  obtain ⟨p, q, hA0, hV, rfl, hfz, hnd⟩ := hW
  have hA : DataW.TrodAll enc Try.prog W 0 (fun _ => true) true Try.f9.params.toList args.toList ds p := hA0
  rw [Try.params9] at hA hval
  obtain ⟨v0, vs0, d0, ds0, p0, q0, hargs, rfl, rfl, h0, r0⟩ := trodAll_cons hA
  obtain ⟨rfl, rfl, rfl⟩ := trodAll_nil r0
  obtain rfl : args = #[v0] := by cases args; simp_all
  obtain ⟨s0, rfl, rfl, rfl, w0⟩ := open_string Try.underlying9 (hval 0 9 v0 rfl rfl) h0
  obtain ⟨a0, rfl⟩ := str_of s0
  rw [str_size] at w0
  clear hA0 hval0
  refine (walk a0 W w0).mono fun e W' ⟨he, bel⟩ => ?_
  subst he
  exact ⟨_, rfl, law_post laidOut (by rw [Try.params9]; decide +kernel) rfl Try.underlying4 rfl hW' (fun _ => rfl) bel⟩
theorem over : Rows.bitmapListsRow.holds Try.pinned (OpenSpec.ofChange Rows.bitmapListsSpec) :=
  OpenClaim.holds_of_wide 9 Try.f9 rfl rfl rfl rfl rfl rfl rfl ⟨rfl, rfl, rfl, rfl, rfl⟩ rfl rfl rfl rfl rfl (by kernel_rfl) Try.func9 (by kernel_rfl)
    (of_decide_eq_true (by kernel_rfl)) (by unfold Func.isWrapper; first | (rw [if_pos (by decide +kernel)]; kernel_rfl) | (rw [if_neg (by decide +kernel)]; exact ⟨rfl, rfl⟩))
    (fun os started H enc _ => lifted os started H enc)
theorem proved : Rows.BitmapListsSaid := over
end Go.Proofs.Ytnfnhknahdkcjaa.bitmapLists
