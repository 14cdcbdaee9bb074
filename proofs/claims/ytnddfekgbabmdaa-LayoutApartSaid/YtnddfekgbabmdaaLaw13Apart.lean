/- No sector belongs to two things: the first two, a journal, or a zone; each sector of a zone has a place that no other one of the zone has: LayoutApart. -/
import Derived.Test.YtnddfekgbabmdaaRows
import Derived.Test.YtnddfekgbabmdaaAw13

namespace Go.Proofs.Ytnddfekgbabmdaa.layoutApart
open Go.RowKit Go.ChangeShapes Go.WideShapes Go.ChangeAt
open Go.ChangeMaps (open_string shut_string)

theorem tmod_bd (a : Int) (m : Nat) (hm : 0 < m) : -(m : Int) < a.tmod m ∧ a.tmod m < m := by
  have h := Int.natAbs_tmod a m
  have h2 : (a.tmod m).natAbs < m := by rw [h]; exact Nat.mod_lt _ (by simpa using hm)
  omega
theorem zp_none {l : Lay} (hk : layOk l = true) {x : Int} (h : layZP l x = (-1, -1)) : x < l.f ∨ l.f + 4 * l.z ≤ x := by
  rw [layZP, if_pos hk] at h
  obtain ⟨z0, z1, z2⟩ := (LayOk.of hk).z3
  have key : ∀ z : Nat, (((z : Nat) : Int), x - (l.f + (z : Int) * l.z)) = ((-1 : Int), (-1 : Int)) → False := fun z e => by
    have := congrArg Prod.fst e
    simp at this
  by_cases c0 : l.f + ((0 : Nat) : Int) * l.z ≤ x ∧ x < l.f + ((0 : Nat) : Int) * l.z + l.z
  · rw [zoneFrom_hit c0] at h; exact (key _ h).elim
  rw [zoneFrom_miss c0] at h
  by_cases c1 : l.f + ((0 + 1 : Nat) : Int) * l.z ≤ x ∧ x < l.f + ((0 + 1 : Nat) : Int) * l.z + l.z
  · rw [zoneFrom_hit c1] at h; exact (key _ h).elim
  rw [zoneFrom_miss c1] at h
  by_cases c2 : l.f + ((0 + 1 + 1 : Nat) : Int) * l.z ≤ x ∧ x < l.f + ((0 + 1 + 1 : Nat) : Int) * l.z + l.z
  · rw [zoneFrom_hit c2] at h; exact (key _ h).elim
  rw [zoneFrom_miss c2] at h
  by_cases c3 : l.f + ((0 + 1 + 1 + 1 : Nat) : Int) * l.z ≤ x ∧ x < l.f + ((0 + 1 + 1 + 1 : Nat) : Int) * l.z + l.z
  · rw [zoneFrom_hit c3] at h; exact (key _ h).elim
  push_cast at c0 c1 c2 c3
  omega
set_option maxRecDepth 100000 in
set_option maxHeartbeats 4000000 in
theorem walk (a0 a1 a2 : Int) (w : World) (_ : (Lit.int .i64 a0).wf = true) (_ : (Lit.int .i64 a1).wf = true) (_ : (Lit.int .i64 a2).wf = true) :
    Calls Try.prog 5 #[.int .i64 a0, .int .i64 a1, .int .i64 a2] w fun e w' => e = .returned (.bool true) ∧ Below w.heap.size w w' := by
  obtain ⟨r0, Hr0⟩ : ∃ r, Hid (a0.tmod 1001 = r) := ⟨_, Lib.hid rfl⟩
  have hb0 : -1001 < r0 ∧ r0 < 1001 := by have := tmod_bd a0 1001 (by omega); rw [show ((1001 : Nat) : Int) = 1001 from rfl, Hr0.out] at this; exact this
  obtain ⟨b00, b01⟩ := hb0
  have hr0 := Hr0.out
  have BB0 : Hid (Below w.heap.size w w) := Lib.hid (Below.refl _ _)
  go_enter Try.func5, Try.ntmps5
  go_wp2_with fail
  refine (awk13_any _).mono ?_
  rintro e x1 ⟨rfl, hb⟩
  have BB1 : Hid (Below w.heap.size w x1) := Lib.hid (bnext BB0.out hb)
  clear  hb
  go_upto_if 22 with fail
  go_cut [8] (fun s wx => ∃ v : Nat, v < 1001 ∧ s = .int .i64 v ∧ wx = x1)
  case first =>
    by_cases hneg : r0 < 0
    · go_wp2_with fail
      go_meet
      case rel => exact ⟨(-r0).toNat, by omega, by go_num, rfl⟩
    · go_wp2_with fail
      go_meet
      case rel => exact ⟨r0.toNat, by omega, by go_num, rfl⟩
  case rest =>
  obtain ⟨n, hn, rfl, rfl⟩ := hcut
  clear hr0 Hr0 b00 b01
  obtain ⟨A, HA⟩ : ∃ x, Hid (layN (n : Int) a1 = x) := ⟨_, Lib.hid rfl⟩
  obtain ⟨E, HE⟩ : ∃ x, Hid (layE (n : Int) a1 = x) := ⟨_, Lib.hid rfl⟩
  go_wp2_with fail
  refine (LNew_any _ _ _).mono ?_
  rw [HA.out, HE.out]
  rintro e x2 ⟨rfl, hb⟩
  have BB2 : Hid (Below w.heap.size w x2) := Lib.hid (bnext BB1.out hb)
  clear  hb
  obtain ⟨qA, HqA⟩ : ∃ q, Hid (x2.heap.size = q) := ⟨_, Lib.hid rfl⟩
  obtain ⟨WA, HWA⟩ : ∃ W, Hid (x2.alloc (.cells #[.int .i64 (A.s), .int .i64 (A.n), .int .i64 (A.f), .int .i64 (A.z)] 24) = W) := ⟨_, Lib.hid rfl⟩
  have hb : Below x2.heap.size x2 WA := by rw [← HWA.out]; exact balloc (Below.refl _ _) _
  have HA3 : Hid (LayAt WA qA A) := Lib.hid (by rw [← HWA.out, ← HqA.out]; exact ⟨by go_simp, by go_simp, by go_simp, by go_simp⟩)
  have BB3 : Hid (Below w.heap.size w WA) := Lib.hid (bnext BB2.out hb)
  clear hb
  have hWA := HWA.out
  have hqA := HqA.out
  by_cases hE : E = 0
  case neg =>
    have hE2 : (E != 0) = true := by simp [hE]
    clear hE
    go_wp2
    go_ret
    exact ⟨rfl, BB3.out⟩
  case pos =>
  subst hE
  have hk : layOk A = true := by rw [← HA.out]; exact layOk_new HE.out
  have hs : A.s = n := by rw [← HA.out, layN_ok HE.out]
  have hok := LayOk.of hk
  obtain ⟨z0, z1, z2⟩ := hok.z3
  obtain ⟨f0, f1⟩ := hok.fb
  have n1 := hok.n1
  have n8 := hok.n8
  have Hf := Lib.hid hok.f
  have Hk := Lib.hid hk
  rw [hs] at z2
  clear hk hs hok
  obtain ⟨N, HN⟩ : ∃ N : Nat, Hid (A.n = (N : Int)) := ⟨A.n.toNat, Lib.hid (by omega)⟩
  have hn0 : (n : Int) ≠ 0 := by omega
  obtain ⟨r2, Hr2⟩ : ∃ r, Hid (a2.tmod (n : Int) = r) := ⟨_, Lib.hid rfl⟩
  have hb2 : -(n : Int) < r2 ∧ r2 < n := by have := tmod_bd a2 n (by omega); rw [Hr2.out] at this; exact this
  obtain ⟨b20, b21⟩ := hb2
  have hr2 := Hr2.out
  go_upto_if 42 with fail
  clear hWA hqA
  go_cut [11] (fun s wx => ∃ v : Nat, v < n ∧ s = .int .i64 v ∧ wx = WA)
  case first =>
    by_cases hneg : r2 < 0
    · go_wp2_with fail
      go_meet
      case rel => exact ⟨(-r2).toNat, by omega, by go_num, rfl⟩
    · go_wp2_with fail
      go_meet
      case rel => exact ⟨r2.toNat, by omega, by go_num, rfl⟩
  case rest =>
  obtain ⟨s, hsn, rfl, hwc⟩ := hcut
  clear hr2 Hr2 b20 b21
  go_upto_if 46 with fail
  go_cut [12] (fun o wx => o = .int .i64 (if (s : Int) < 2 + 40 * ((0 : Nat) : Int) then 1 else 0) ∧ wx = WA)
  case first =>
    by_cases h2 : (s : Int) < 2
    · go_wp2_with fail
      go_meet
      case rel => exact ⟨by rw [if_pos (by omega)], rfl⟩
    · go_wp2_with fail
      go_meet
      case rel => exact ⟨by rw [if_neg (by omega)], rfl⟩
  case rest =>
  obtain ⟨rfl, hwc2⟩ := hcut
  clear hwc
  subst hwc2
  obtain ⟨o0, Ho0⟩ : ∃ o : Int, Hid ((if (s : Int) < 2 + 40 * ((0 : Nat) : Int) then 1 else 0) = o) := ⟨_, Lib.hid rfl⟩
  rw [Ho0.out]
  go_wp2_with fail
  go_loopw [12, 13] (fun o i wr => ∃ k : Nat, k ≤ N ∧ o = .int .i64 (if (s : Int) < 2 + 40 * (k : Int) then 1 else 0) ∧ i = .int .i64 k ∧ Hid (Below wc.heap.size wc wr)) (fun _ i _ => N - (intOf i).toNat)
  case atStart => exact ⟨0, Nat.zero_le _, by rw [Ho0.out], rfl, Lib.hid (Below.refl _ _)⟩
  case round =>
    obtain ⟨k, hkN, rfl, rfl, Hbr⟩ := hrel
    have HR := Lib.hid (HA3.out.below Hbr.out)
    have lt0 := HR.out.lt
    obtain ⟨c0, c1, c2, c3⟩ := HR.out
    by_cases hlt : k < N
    · have hltI : (k : Int) < A.n := by have := HN.out; omega
      have hk8 : (k : Int) < 8 := by omega
      have hj : layJ A k = 2 + 40 * (k : Int) := if_pos ⟨Hk.out, by omega, hltI⟩
      have k1 : IntKind.i64.wrap (2 + 40 * (k : Int) + 40) = 2 + 40 * (k : Int) + 40 := IntWalk.i64_in _ (by omega)
      by_cases h1 : (s : Int) < 2 + 40 * (k : Int)
      · rw [if_pos h1]
        go_wp2_with fail
        refine (Journal_any A _ _).mono ?_
        rw [hj]
        rintro e y1 ⟨rfl, hb⟩
        have B1 := Lib.hid (bnext Hbr.out hb)
        clear hb hj c0 c1 c2 c3 lt0
        go_wp2
        go_roundw
        case rel => exact ⟨k + 1, by omega, by rw [if_pos (by omega)], by go_num, B1⟩
        case measure => simp [intOf]; omega
      · rw [if_neg h1]
        go_wp2_with fail
        refine (Journal_any A _ _).mono ?_
        rw [hj]
        rintro e y1 ⟨rfl, hb⟩
        have B1 := Lib.hid (bnext Hbr.out hb)
        clear hb hj c0 c1 c2 c3 lt0
        by_cases h2 : (s : Int) < 2 + 40 * (k : Int) + 40
        · have h3 : 2 + 40 * (k : Int) ≤ (s : Int) := by omega
          go_wp2
          go_roundw
          case rel => exact ⟨k + 1, by omega, by rw [if_pos (by omega)], by go_num, B1⟩
          case measure => simp [intOf]; omega
        · have h3 : 2 + 40 * (k : Int) ≤ (s : Int) := by omega
          go_wp2
          go_roundw
          case rel => exact ⟨k + 1, by omega, by rw [if_neg (by omega)], by go_num, B1⟩
          case measure => simp [intOf]; omega
    · obtain rfl : k = N := by omega
      have hge : A.n ≤ (k : Int) := by have := HN.out; omega
      have hk8 : (k : Int) ≤ 8 := by have := HN.out; omega
      obtain ⟨o, Ho⟩ : ∃ o : Int, Hid ((if (s : Int) < 2 + 40 * (k : Int) then 1 else 0) = o) := ⟨_, Lib.hid rfl⟩
      have Hof : Hid (2 + 40 * (k : Int) = A.f) := Lib.hid (by rw [Hf.out, HN.out])
      have ho : o = 1 ∧ (s : Int) < A.f ∨ o = 0 ∧ A.f ≤ (s : Int) := by
        rw [← Ho.out, Hof.out]
        by_cases h : (s : Int) < A.f
        · left; rw [if_pos h]; exact ⟨rfl, h⟩
        · right; rw [if_neg h]; exact ⟨rfl, by omega⟩
      rw [Ho.out]
      have Ho2 := Lib.hid ho
      clear ho
      have hmn : IntKind.i64.min = -9223372036854775808 := by decide
      have hmx : IntKind.i64.max = 9223372036854775807 := by decide
      have hws : (Lit.int .i64 (s : Int)).wf = true := by simp [Lit.wf, hmn, hmx]; omega
      have Hws := Lib.hid hws
      obtain ⟨ZZ, HZZ⟩ : ∃ x, Hid ((layZP A (s : Int)).1 = x) := ⟨_, Lib.hid rfl⟩
      obtain ⟨PP, HPP⟩ : ∃ x, Hid ((layZP A (s : Int)).2 = x) := ⟨_, Lib.hid rfl⟩
      have Hzp : Hid ((ZZ = -1 ∧ PP = -1 ∧ ((s : Int) < A.f ∨ A.f + 4 * A.z ≤ s)) ∨ ∃ z : Nat, z < 4 ∧ ZZ = (z : Int) ∧ PP = (s : Int) - (A.f + z * A.z) ∧ A.f + z * A.z ≤ (s : Int) ∧ (s : Int) < A.f + z * A.z + A.z) := Lib.hid (by
        rw [← HZZ.out, ← HPP.out]
        rcases zp_cases A (s : Int) with h | ⟨z, h1, h2, h3, h4, h5⟩
        · left; exact ⟨by rw [h], by rw [h], zp_none Hk.out h⟩
        · right; exact ⟨z, h1, by rw [h2], by rw [h2], h4, h5⟩)
      clear hws hmn hmx
      have HR20 := HR
      have BB20 : Hid (Below w.heap.size w wr) := Lib.hid (bnext BB3.out Hbr.out)
      clear c0 c1 c2 c3 lt0
      have ltR := HR20.out.lt
      obtain ⟨cR0, cR1, cR2, cR3⟩ := HR20.out
      go_wp2_with fail
      refine (Zone_any A _ Hws.out _).mono ?_
      rw [HZZ.out]
      rintro e x21 ⟨rfl, hb⟩
      have BB21 : Hid (Below w.heap.size w x21) := Lib.hid (bnext BB20.out hb)
      have HR21 := Lib.hid (HR20.out.below hb)
      clear ltR cR0 cR1 cR2 cR3 hb
      have ltR := HR21.out.lt
      obtain ⟨cR0, cR1, cR2, cR3⟩ := HR21.out
      go_wp2_with fail
      refine (Place_any A _ Hws.out _).mono ?_
      rw [HPP.out]
      rintro e x22 ⟨rfl, hb⟩
      have BB22 : Hid (Below w.heap.size w x22) := Lib.hid (bnext BB21.out hb)
      have HR22 := Lib.hid (HR21.out.below hb)
      clear ltR cR0 cR1 cR2 cR3 hb
      have ltR := HR22.out.lt
      obtain ⟨cR0, cR1, cR2, cR3⟩ := HR22.out
      rcases Hzp.out with ⟨hz, hp, hq⟩ | ⟨z, hz4, hz, hp, h4, h5⟩
      · subst hz hp
        have w2 : IntKind.i64.wrap (4 * A.z) = 4 * A.z := IntWalk.i64_in _ (by omega)
        have w3 : IntKind.i64.wrap (A.f + 4 * A.z) = A.f + 4 * A.z := IntWalk.i64_in _ (by omega)
        rcases Ho2.out with ⟨ho, h1⟩ | ⟨ho, h1⟩
        · subst ho
          have h2 : ¬ A.f + 4 * A.z ≤ (s : Int) := by omega
          clear hq
          go_wp2
          go_ret
          exact ⟨rfl, BB22.out⟩
        · subst ho
          have h2 : A.f + 4 * A.z ≤ (s : Int) := by omega
          clear hq
          go_wp2
          go_ret
          exact ⟨rfl, BB22.out⟩
      · have hp0 := layP_ok Hk.out hz4 0
        have hp1 := layP_ok Hk.out hz4 1
        obtain ⟨m0, m1⟩ := mul_bds (LayOk.of Hk.out) hz4
        have hmz : (z : Int) * A.z + A.z ≤ 4 * A.z := by
          have : ((z : Int) + 1) * A.z ≤ 4 * A.z := Int.mul_le_mul_of_nonneg_right (by omega) (by omega)
          rw [Int.add_mul] at this
          omega
        obtain ⟨m, Hm⟩ : ∃ m, Hid ((z : Int) * A.z = m) := ⟨_, Lib.hid rfl⟩
        rw [Hm.out] at hp0 hp1 m0 m1 hp h4 h5 hmz
        rw [Int.add_zero] at hp0
        have ho : o = 0 := by rcases Ho2.out with ⟨h, h'⟩ | ⟨h, h'⟩ <;> omega
        subst hz ho
        have hp' : (s : Int) = A.f + m + PP := by omega
        have pp0 : 0 ≤ PP := by omega
        have pp1 : PP < A.z := by omega
        have Hp' := Lib.hid hp'
        have w0 : IntKind.i64.wrap (A.f + m + PP) = (s : Int) := by rw [← hp']; exact IntWalk.i64_in _ (by omega)
        have w2 : IntKind.i64.wrap (4 * A.z) = 4 * A.z := IntWalk.i64_in _ (by omega)
        have w3 : IntKind.i64.wrap (A.f + 4 * A.z) = A.f + 4 * A.z := IntWalk.i64_in _ (by omega)
        have h2 : ¬ A.f + 4 * A.z ≤ (s : Int) := by omega
        have hpr : (PP == 1) = (A.f + m + 1 == (s : Int)) := by
          rw [Bool.eq_iff_iff, beq_iff_eq, beq_iff_eq]; omega
        have Hpr := Lib.hid hpr
        have hz0 : (0 : Int) ≤ (z : Int) := by omega
        clear hp hp' hpr h4 h5 hmz
        go_wp2_with fail
        refine (Begin_any A _ _).mono ?_
        rw [hp0]
        rintro e x23 ⟨rfl, hb⟩
        have BB23 : Hid (Below w.heap.size w x23) := Lib.hid (bnext BB22.out hb)
        have HR23 := Lib.hid (HR22.out.below hb)
        clear ltR cR0 cR1 cR2 cR3 hb
        have ltR := HR23.out.lt
        obtain ⟨cR0, cR1, cR2, cR3⟩ := HR23.out
        go_wp2_with fail
        refine (Root_any A _ _).mono ?_
        rw [hp1]
        rintro e x24 ⟨rfl, hb⟩
        have BB24 : Hid (Below w.heap.size w x24) := Lib.hid (bnext BB23.out hb)
        have HR24 := Lib.hid (HR23.out.below hb)
        clear ltR cR0 cR1 cR2 cR3 hb
        have ltR := HR24.out.lt
        obtain ⟨cR0, cR1, cR2, cR3⟩ := HR24.out
        have hpr2 : ((PP == 1) == (A.f + m + 1 == (s : Int))) = true := by rw [Hpr.out]; simp
        go_wp2
        go_ret
        exact ⟨rfl, BB24.out⟩
theorem own : ownKnob Try.prog.godebug = none := by kernel_rfl
theorem laidOut : laidOutB Try.prog = true := by kernel_rfl
set_option maxRecDepth 100000 in
theorem lifted (os : Os) (started : os.Started) (H : Type) (enc : TypeId × Value → H) :
    ReturnsInHanded {} Try.checked os 5 .any (Rows.layoutApartSpec.pre6 enc Try.prog Try.f5 Rows.layoutApartRow.domain false) (Rows.layoutApartSpec.post enc Try.prog Try.f5 false true false false) := by
  refine returnsInHanded_of_change (C := Try.checked) own started (by kernel_rfl) Try.func5
    (ChangeSpec.witness6 (enc := enc) (C := Try.checked) false ⟨#[], #[.int .i64 0, .int .i64 0, .int .i64 0], []⟩ 8 (by kernel_rfl) (by kernel_rfl) (by kernel_rfl) (by kernel_rfl)) ?_
  intro W base args ds gs before hval0 hW hcnd _
  have hval : ∀ (j : Nat) t v, Try.f5.params[j]? = some t → args[j]? = some v → Value.okWide Try.prog W .any base t v := hval0
  have hW' := hW
  obtain ⟨p, q, hA0, hV, rfl, hfz, hnd⟩ := hW
  have hA : DataW.TrodAll enc Try.prog W 0 (fun _ => true) true Try.f5.params.toList args.toList ds p := hA0
  rw [Try.params5] at hA hval
  obtain ⟨v0, vs0, d0, ds0, p0, q0, hargs, rfl, rfl, h0, r0⟩ := trodAll_cons hA
  obtain ⟨v1, vs1, d1, ds1, p1, q1, rfl, rfl, rfl, h1, r1⟩ := trodAll_cons r0
  obtain ⟨v2, vs2, d2, ds2, p2, q2, rfl, rfl, rfl, h2, r2⟩ := trodAll_cons r1
  obtain ⟨rfl, rfl, rfl⟩ := trodAll_nil r2
  obtain rfl : args = #[v0, v1, v2] := by cases args; simp_all
  obtain ⟨a0, rfl, rfl, rfl, w0⟩ := open_int Try.underlying3 (hval 0 3 v0 rfl rfl) h0
  obtain ⟨a1, rfl, rfl, rfl, w1⟩ := open_int Try.underlying3 (hval 1 3 v1 rfl rfl) h1
  obtain ⟨a2, rfl, rfl, rfl, w2⟩ := open_int Try.underlying3 (hval 2 3 v2 rfl rfl) h2
  clear hA0 hval0
  refine (walk a0 a1 a2 W w0 w1 w2).mono fun e W' ⟨he, bel⟩ => ?_
  subst he
  exact ⟨_, rfl, law_post laidOut (by rw [Try.params5]; decide +kernel) rfl Try.underlying4 rfl hW' (fun _ => rfl) bel⟩
theorem over : Rows.layoutApartRow.holds Try.pinned (OpenSpec.ofChange Rows.layoutApartSpec) :=
  OpenClaim.holds_of_wide 5 Try.f5 rfl rfl rfl rfl rfl rfl rfl ⟨rfl, rfl, rfl, rfl, rfl⟩ rfl rfl rfl rfl rfl (by kernel_rfl) Try.func5 (by kernel_rfl)
    (of_decide_eq_true (by kernel_rfl)) (by unfold Func.isWrapper; first | (rw [if_pos (by decide +kernel)]; kernel_rfl) | (rw [if_neg (by decide +kernel)]; exact ⟨rfl, rfl⟩))
    (fun os started H enc _ => lifted os started H enc)
theorem proved : Rows.LayoutApartSaid := over
end Go.Proofs.Ytnddfekgbabmdaa.layoutApart
