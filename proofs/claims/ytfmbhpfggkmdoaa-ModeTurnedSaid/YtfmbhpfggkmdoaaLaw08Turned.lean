/- ModeTurned: whether claims are safe, and which mode is the strongest, does not hang on their order: for any claims (twelve of them are asked of), turned round, and any node. -/
import Derived.Test.YtfmbhpfggkmdoaaRows
import Derived.Test.YtfmbhpfggkmdoaaOwn8
import Derived.Test.YtfmbhpfggkmdoaaCRow8
namespace Go.Proofs.Ytfmbhpfggkmdoaa.modeTurned
open Go.RowKit Go.ChangeShapes Go.WideShapes Go.ChangeAt
open Go.ChangeMaps (open_string shut_string)

theorem safe_rev (l : List Cl) : safeB l.reverse = safeB l := by
  unfold safeB
  rw [decide_eq_decide]
  unfold SafeP
  rw [List.pairwise_reverse]
  constructor
  · rintro ⟨h1, h2⟩
    exact ⟨fun c hc => h1 c (List.mem_reverse.2 hc), h2.imp fun h => ⟨fun e => h.1 e.symm, by rw [fit_comm]; exact h.2⟩⟩
  · rintro ⟨h1, h2⟩
    exact ⟨fun c hc => h1 c (List.mem_reverse.1 hc), h2.imp fun h => ⟨fun e => h.1 e.symm, by rw [fit_comm]; exact h.2⟩⟩
theorem str_rev (l : List Cl) (but : Int) : strM l.reverse but = strM l but := by
  unfold strM strP soM
  rw [List.any_reverse, List.any_reverse]
set_option maxRecDepth 100000 in
set_option maxHeartbeats 2000000 in
theorem walk (A : Option Addr) (n cp : Nat) (l : List Cl) (but : Int) (w : World) (hl : IsC w A n l) (hcp : n ≤ cp) (hA : A = none → n = 0) (_ : (Lit.int .i64 but).wf = true) :
    Calls Try.prog 8 #[.slice A n cp, .int .i64 but] w fun e w' => e = .returned (.bool true) ∧ Below w.heap.size w w' := by
  have Hl := Lib.hid hl
  have HA := Lib.hid hA
  clear hl hA
  obtain ⟨l2, Hl2⟩ : ∃ x, Hid (l.take 12 = x) := ⟨_, Lib.hid rfl⟩
  obtain ⟨s, Hs⟩ : ∃ x, Hid (safeB l2 = x) := ⟨_, Lib.hid rfl⟩
  obtain ⟨t, Ht⟩ : ∃ x, Hid (strM l2 but = x) := ⟨_, Lib.hid rfl⟩
  go_enter Try.func8, Try.ntmps8
  go_wp2_with fail
  refine (awake_any _).mono ?_
  rintro e w1 ⟨rfl, hb⟩
  have B1 := Lib.hid hb
  clear hb
  go_wp2_with fail
  refine (few_any _ A n cp l (Hl.out.below B1.out) hcp HA.out).mono ?_
  rw [Hl2.out]
  rintro e w1' ⟨m, c', rfl, hm, hc, hmc, rfl⟩
  have C1 := Lib.hid hc
  clear hc
  obtain ⟨i0, hi, hz0, hz1, hz2⟩ := info_parts infoC
  have Hi := Lib.hid hi
  have Hz0 := Lib.hid hz0
  have Hz1 := Lib.hid hz1
  have Hz2 := Lib.hid hz2
  clear hi hz0 hz1 hz2
  go_wp2
  go_loopw [7, 8] (fun v s wr => ∃ (j : Nat) (B : Option Addr) (bn bc : Nat), s = .int .i64 ((j : Int) - 1) ∧ j ≤ m ∧ v = .slice B bn bc ∧ bn + j = m ∧ Hid (OwnC wr w1.heap.size B bn bc (l2.drop j).reverse) ∧ Hid (Below w1.heap.size w1 wr)) (fun _ s _ => (intOf s + 1).toNat)
  case atStart => exact ⟨m, none, 0, 0, rfl, Nat.le_refl _, rfl, by omega, Lib.hid (by rw [List.drop_eq_nil_of_le (by rw [C1.out.length]; omega)]; exact OwnC.nil _ _), Lib.hid (Below.refl _ _)⟩
  case round =>
    obtain ⟨j, B, bn, bc, rfl, hj, rfl, hbn, HO, HB⟩ := hrel
    match j, hj, hbn, HO with
    | 0, hj, hbn, HO =>
      obtain rfl : bn = m := by omega
      rw [List.drop_zero] at HO
      have hD := HO.out.is (fun c hc => C1.out.wf c (List.mem_reverse.1 hc))
      have D1 := Lib.hid hD.1
      clear hD
      have CC := Lib.hid (C1.out.below HB.out)
      have Hs2 : Hid (safeB l2.reverse = s) := Lib.hid ((safe_rev l2).trans Hs.out)
      have Ht2 : Hid (strM l2.reverse but = t) := Lib.hid ((str_rev l2 but).trans Ht.out)
      have BB := Lib.hid (bnext B1.out HB.out)
      clear HB HO
      go_wp2_with fail
      refine (Safe_any _ A bn c' l2 CC.out).mono ?_
      rw [Hs.out]
      rintro e w2 ⟨rfl, hb⟩
      have B2 := Lib.hid (bnext BB.out hb)
      have C2 := Lib.hid (CC.out.below hb)
      have D2 := Lib.hid (D1.out.below hb)
      clear hb
      go_wp2_with fail
      refine (Safe_any _ B bn bc l2.reverse D2.out).mono ?_
      rw [Hs2.out]
      rintro e w3 ⟨rfl, hb⟩
      have B3 := Lib.hid (bnext B2.out hb)
      have C3 := Lib.hid (C2.out.below hb)
      have D3 := Lib.hid (D2.out.below hb)
      clear hb
      go_wp2_with fail
      refine (Strongest_any _ A bn c' l2 C3.out but).mono ?_
      rw [Ht.out]
      rintro e w4 ⟨rfl, hb⟩
      have B4 := Lib.hid (bnext B3.out hb)
      have D4 := Lib.hid (D3.out.below hb)
      clear hb
      go_wp2_with fail
      refine (Strongest_any _ B bn bc l2.reverse D4.out but).mono ?_
      rw [Ht2.out]
      rintro e w5 ⟨rfl, hb⟩
      have B5 := Lib.hid (bnext B4.out hb)
      clear hb
      go_wp2
      go_ret
      exact ⟨ret_bool (by simp), B5.out⟩
    | k + 1, hj, hbn, HO =>
      rw [show ((k + 1 : Nat) : Int) - 1 = (k : Int) by omega]
      have hk : (k : Int) < (m : Int) := by omega
      obtain ⟨c, hc⟩ : ∃ c, l2[k]? = some c := ⟨_, List.getElem?_eq_getElem (by rw [C1.out.length]; omega)⟩
      obtain ⟨g, off, rfl, hg, hcs⟩ := (C1.out.below HB.out).cells (by omega)
      obtain ⟨c0, c1⟩ := hcs k c hc
      have Hd : Hid ((l2.drop k).reverse = (l2.drop (k + 1)).reverse ++ [c]) := Lib.hid (by
        obtain ⟨hk2, e⟩ := List.getElem?_eq_some_iff.1 hc
        rw [List.drop_eq_getElem_cons hk2, e, List.reverse_cons])
      have hrow : Row (wr.alloc (.cells #[.int .i64 c.1, .int .i64 c.2] 35)) 2 (.slice B bn bc) bn (cls2 (l2.drop (k + 1)).reverse) := HO.out.row.later (S := fun _ => False) (Mod.of_below (balloc (Below.refl _ _) _)) (fun _ _ h => h)
      have Hrow := Lib.hid hrow
      have Hat := Lib.hid (cl1_at wr c)
      clear hrow hcs hc
      go_wp2_with (at_builtin; refine wpList_append_row _ rfl (.tmp 19) (.tmp 24) 28 rfl Hrow.out 35 i0 (.agg #[.int .i64 0, .int .i64 0]) 16 Try.underlying28 Hi.out Hz0.out Hz1.out Hz2.out rfl (by decide) rfl ⟨wr.heap.size, 0, none⟩ 1 1 (cl1 c) rfl rfl Hat.out (cl1_one c) (by decide) ?c3 ?c4 ?_)
      case c3 => unfold maxLen; omega
      case c4 => omega
      intro q cap' w2 hr hm2 hb2
      have b1 : Below w1.heap.size w1 (wr.alloc (.cells #[.int .i64 c.1, .int .i64 c.2] 35)) := balloc HB.out _
      have HO2 : Hid (OwnC w2 w1.heap.size (some q) (bn + 1) cap' (l2.drop k).reverse) := Lib.hid (by
        rw [Hd.out]
        exact OwnC.more (w := wr) HO.out HB.out.size c hr (hb2.imp id (fun ⟨g, h1, h2⟩ => ⟨g, h1, by omega⟩)))
      have HB2 : Hid (Below w1.heap.size w1 w2) := Lib.hid (hm2.below b1 b1.size (fun i hi => HO.out.new i hi))
      clear hr hm2 hb2 b1 c0 c1
      go_wp2
      go_roundw
      case rel => exact ⟨k, some q, bn + 1, cap', by go_num, by omega, rfl, by omega, HO2, HB2⟩
      case measure => simp [intOf]
theorem own : ownKnob Try.prog.godebug = none := by kernel_rfl
theorem laidOut : laidOutB Try.prog = true := by kernel_rfl
set_option maxRecDepth 100000 in
theorem lifted (os : Os) (started : os.Started) (H : Type) (enc : TypeId × Value → H) :
    ReturnsInHanded {} Try.checked os 8 .any (Rows.modeTurnedSpec.pre6 enc Try.prog Try.f8 Rows.modeTurnedRow.domain false) (Rows.modeTurnedSpec.post enc Try.prog Try.f8 false true false false) := by
  refine returnsInHanded_of_change (C := Try.checked) own started (by kernel_rfl) Try.func8
    (ChangeSpec.witness6 (enc := enc) (C := Try.checked) false ⟨#[], #[.slice none 0 0, .int .i64 0], []⟩ 8 (by kernel_rfl) (by kernel_rfl) (by kernel_rfl) (by kernel_rfl)) ?_
  intro W base args ds gs before hval0 hW hcnd _
  have hval : ∀ (j : Nat) t v, Try.f8.params[j]? = some t → args[j]? = some v → Value.okWide Try.prog W .any base t v := hval0
  have hW' := hW
  obtain ⟨p, q, hA0, hV, rfl, hfz, hnd⟩ := hW
  have hA : DataW.TrodAll enc Try.prog W 0 (fun _ => true) true Try.f8.params.toList args.toList ds p := hA0
  rw [Try.params8] at hA hval
  obtain ⟨v0, vs0, d0, ds0, p0, q0, hargs, rfl, rfl, h0, r0⟩ := trodAll_cons hA
  obtain ⟨v1, vs1, d1, ds1, p1, q1, rfl, rfl, rfl, h1, r1⟩ := trodAll_cons r0
  obtain ⟨rfl, rfl, rfl⟩ := trodAll_nil r1
  obtain rfl : args = #[v0, v1] := by cases args; simp_all
  obtain ⟨x0, len0, cap0, a0, rfl, w0, y0, z0⟩ := opens_claims (hval 0 28 v0 rfl rfl) h0
  obtain ⟨a1, rfl, rfl, rfl, w1⟩ := open_int Try.underlying3 (hval 1 3 v1 rfl rfl) h1
  clear hA0 hval0
  refine (walk x0 len0 cap0 a0 a1 W w0 y0 z0 w1).mono fun e W' ⟨he, bel⟩ => ?_
  subst he
  exact ⟨_, rfl, law_post laidOut (by rw [Try.params8]; decide +kernel) rfl Try.underlying4 rfl hW' (fun _ => rfl) bel⟩
theorem over : Rows.modeTurnedRow.holds Try.pinned (OpenSpec.ofChange Rows.modeTurnedSpec) :=
  OpenClaim.holds_of_wide 8 Try.f8 rfl rfl rfl rfl rfl rfl rfl ⟨rfl, rfl, rfl, rfl, rfl⟩ rfl rfl rfl rfl rfl (by kernel_rfl) Try.func8 (by kernel_rfl)
    (of_decide_eq_true (by kernel_rfl)) (by unfold Func.isWrapper; first | (rw [if_pos (by decide +kernel)]; kernel_rfl) | (rw [if_neg (by decide +kernel)]; exact ⟨rfl, rfl⟩))
    (fun os started H enc _ => lifted os started H enc)
theorem proved : Rows.ModeTurnedSaid := over
end Go.Proofs.Ytfmbhpfggkmdoaa.modeTurned
