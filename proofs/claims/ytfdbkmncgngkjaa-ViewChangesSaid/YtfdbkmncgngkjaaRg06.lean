/- The document's functions over views: Open, Chief, unready. -/
import Derived.Test.YtfdbkmncgngkjaaRf06
namespace Go.Proofs.Ytfdbkmncgngkjaa
open Go.RowKit

theorem any_upto {l : List Mb} {p : Mb → Bool} {k : Nat} {m : Mb} (h : (l.take k).any p = false) (hm : l[k]? = some m) (hp : p m = false) : (l.take (k + 1)).any p = false := by
  rw [List.take_add_one, hm, List.any_append, h]
  simp [hp]
set_option maxHeartbeats 4000000 in
theorem ROpen_any (w : World) (x : Vx) (V : Vw) (h : IsV w x V) (hs : V.mem.length ≤ 1000) :
    Calls Try.prog 38 #[vV x] w fun e w' => e = .returned (.bool (openB V)) ∧ Below w.heap.size w w' := by
  have Hh := Lib.hid h
  have hlen := h.mem.length
  have hn : x.mn ≤ 1000 := by omega
  have Hd := Lib.hid h.dead.length
  clear h
  go_enter Try.func38, Try.ntmps38
  go_upto_region 1 with (fail)
  obtain ⟨w1, H_w1⟩ : ∃ w1, Hid (w.alloc (.cells (vC x) 25) = w1) := ⟨_, Lib.hid rfl⟩
  obtain ⟨b, H_b⟩ : ∃ b, Hid (w.heap.size = b) := ⟨_, Lib.hid rfl⟩
  have HX_b : Hid (BoxV w1 b x) := Lib.hid (by rw [← H_w1.out, ← H_b.out]; exact BoxV.new w x)
  have HL_w1 : Hid (Below w.heap.size w w1) := Lib.hid (by rw [← H_w1.out]; exact (Below.refl _ _).alloc (Nat.le_refl _) _)
  rw [show w.alloc (.cells #[.int .i64 x.nodes, .int .i64 x.epoch, .slice x.mA x.mn x.mc, .slice x.dA x.dn x.dc, .slice x.iA x.ir x.ic] 25) = w1 from H_w1.out]
  try rw [H_b.out]
  have HV1 := Lib.hid (Hh.out.below HL_w1.out)
  go_wp2
  go_loopw [3] (fun i wr => ∃ j : Nat, i = .int .i64 (j : Int) ∧ j ≤ x.mn ∧ Hid ((V.mem.take j).any pUn = false) ∧ Hid (Below w1.heap.size w1 wr)) (fun i _ => x.mn - (intOf i).toNat)
  case atStart => exact ⟨0, rfl, Nat.zero_le _, Lib.hid rfl, Lib.hid (Below.refl _ _)⟩
  case round =>
    obtain ⟨j, rfl, hj, HA, HB⟩ := hrel
    have HX := Lib.hid (HX_b.out.below HB.out)
    have HV := Lib.hid (HV1.out.below HB.out)
    have HBw : Hid (Below w.heap.size w wr) := Lib.hid (bnext HL_w1.out HB.out)
    obtain ⟨v0, v1, v2, v3, v4⟩ := HX.out.cells
    by_cases hlt : j < x.mn
    · have hd : decide ((j : Int) < (x.mn : Int)) = true := by simpa using hlt
      obtain ⟨g, off, eA, hg, hcs⟩ := HV.out.mem.cells (by omega)
      obtain ⟨m, hm⟩ : ∃ m, V.mem[j]? = some m := ⟨_, List.getElem?_eq_getElem (by rw [hlen]; exact hlt)⟩
      have c2 := (hcs j m hm).2.2
      have hix := fun w => idxM (n := x.mn) (c := x.mc) eA hlt w
      have Hm := Lib.hid hm
      clear hcs hm eA
      cases hr : m.2.2 with
      | true =>
        rw [hr] at c2
        have HA2 : Hid ((V.mem.take (j + 1)).any pUn = false) := Lib.hid (any_upto HA.out Hm.out (by simp [pUn, hr]))
        clear hr
        go_wp2
        go_roundw
        case rel => exact ⟨j + 1, by go_num, by omega, HA2, HB⟩
        case measure => simp [intOf]; omega
      | false =>
        rw [hr] at c2
        have Hr : Hid (openB V = false) := Lib.hid (by
          have : V.mem.any pUn = true := List.any_eq_true.2 ⟨m, List.mem_of_getElem? Hm.out, by simp [pUn, hr]⟩
          unfold openB
          rw [this]
          simp)
        clear hr
        go_wp2
        go_ret
        exact ⟨ret_bool Hr.out.symm, HBw.out⟩
    · have hd : decide ((j : Int) < (x.mn : Int)) = false := by simpa using hlt
      have Hall : Hid (V.mem.any pUn = false) := Lib.hid (by have := HA.out; rwa [List.take_of_length_le (by omega)] at this)
      obtain ⟨eb, Heb⟩ : ∃ eb, Hid (enoughB V = eb) := ⟨_, Lib.hid rfl⟩
      go_wp2_with fail
      clear v0 v1 v2 v3 v4
      refine (REnough_any _ x V HV.out hs).mono ?_
      rw [Heb.out]
      rintro e w3 ⟨rfl, hb3⟩
      have HB3 : Hid (Below w.heap.size w w3) := Lib.hid (bnext HBw.out hb3)
      have HX3 := Lib.hid (HX.out.below hb3)
      clear hb3
      obtain ⟨v0, v1, v2, v3, v4⟩ := HX3.out.cells
      cases eb with
      | false =>
        have Hr : Hid (openB V = false) := Lib.hid (by unfold openB; rw [Heb.out]; rfl)
        go_wp2
        go_ret
        exact ⟨ret_bool Hr.out.symm, HB3.out⟩
      | true =>
        by_cases hz : x.dn = 0
        · have hz' : ((x.dn : Int) == 0) = true := beq_yes (by omega)
          have Hr : Hid (openB V = true) := Lib.hid (by unfold openB; rw [Heb.out, Hall.out, Hd.out, hz]; rfl)
          clear hz
          go_wp2
          go_ret
          exact ⟨ret_bool Hr.out.symm, HB3.out⟩
        · have hz' : ((x.dn : Int) == 0) = false := beq_no (by omega)
          have Hr : Hid (openB V = false) := Lib.hid (by unfold openB; rw [Heb.out, Hd.out]; simp [hz])
          clear hz
          go_wp2
          go_ret
          exact ⟨ret_bool Hr.out.symm, HB3.out⟩
set_option maxHeartbeats 4000000 in
theorem unready_any (w : World) (A : Option Addr) (n c : Nat) (l : List Mb) (h : IsL w A n c l) (hs : l.length ≤ 1000) :
    Calls Try.prog 70 #[.slice A n c] w fun e w' => ∃ A' n' c', e = .returned (.slice A' n' c') ∧ OwnL w' w.heap.size A' n' c' (l.map unr) ∧ Below w.heap.size w w' := by
  have Hh := Lib.hid h
  have hn : n ≤ 1000 := by rw [← h.length]; exact hs
  obtain ⟨i0, hi, hz0, hz1, hz2⟩ := info_parts infoM
  have Hi := Lib.hid hi
  have Hz0 := Lib.hid hz0
  have Hz1 := Lib.hid hz1
  have Hz2 := Lib.hid hz2
  clear h hi hz0 hz1 hz2
  go_enter Try.func70, Try.ntmps70
  go_wp2
  go_loopw [3, 4] (fun v i wr => ∃ (k : Nat) (B : Option Addr) (bc : Nat), i = .int .i64 (k : Int) ∧ k ≤ n ∧ v = .slice B k bc ∧ Hid (OwnL wr w.heap.size B k bc ((l.take k).map unr)) ∧ Hid (Below w.heap.size w wr)) (fun _ i _ => n - (intOf i).toNat)
  case atStart => exact ⟨0, none, 0, rfl, Nat.zero_le _, rfl, Lib.hid (OwnL.nil _ _), Lib.hid (Below.refl _ _)⟩
  case round =>
    obtain ⟨k, B, bc, rfl, hk, rfl, HO, HB⟩ := hrel
    by_cases hlt : k < n
    · have hd : decide ((k : Int) < (n : Int)) = true := by simpa using hlt
      obtain ⟨g, off, eA, hg, hcs⟩ := Hh.out.cells (by omega)
      obtain ⟨m, hm⟩ : ∃ m, l[k]? = some m := ⟨_, List.getElem?_eq_getElem (by rw [Hh.out.length]; exact hlt)⟩
      have hc := hcs k m hm
      have k0 : ∀ y : In (Abv w), y.u.cell? ⟨g, off + k * 3, none⟩ = some (.int .i64 m.1) := fun y => (y.is.cell (p := ⟨g, off + k * 3, none⟩) hg).trans hc.1
      have k1 : ∀ y : In (Abv w), y.u.cell? ⟨g, off + k * 3 + 1, none⟩ = some (.int .i64 m.2.1) := fun y => (y.is.cell (p := ⟨g, off + k * 3 + 1, none⟩) hg).trans hc.2.1
      have hix : ∀ w : World, (Instr.indexAt 22 (.slice A n c) (.int .i64 (k : Int))).run Try.prog w = .ok (.pointer (some ⟨g, off + k * 3, none⟩)) w := fun w => idxM (n := n) (c := c) eA hlt w
      have Hm : Hid ((l.take (k + 1)).map unr = (l.take k).map unr ++ [unr m]) := Lib.hid (by rw [List.take_add_one, hm]; simp)
      clear hcs hm eA hc
      go_upto_region 5 with (fail)
      refine wp_region_mix (by kernel_rfl) (Cls (Abv w)) [(0, 0), (1, 0), (2, 0), (3, 0), (4, 0), (5, 0), (6, 0), (7, 0), (8, 0), (9, 0), (10, 0), (11, 0), (12, 1), (13, 1), (14, 0)] (by kernel_rfl) (cls HB.out.drew) ?_
      repeat (refine mix0 rfl (fun K hK => ?_); go_simp; refine hK _ ?_; clear hK K)
      refine mix1 rfl (fun K hK => ?_)
      go_simp
      have b1 : Below w.heap.size w (wr.drew.alloc (.cells #[.int .i64 (unr m).1, .int .i64 (unr m).2.1, .bool (unr m).2.2] 53)) := balloc HB.out.drew _
      refine hK _ _ (cls b1) ?_
      clear hK K
      have hrow : RowM (wr.drew.alloc (.cells #[.int .i64 (unr m).1, .int .i64 (unr m).2.1, .bool (unr m).2.2] 53)) B k bc ((l.take k).map unr) := HO.out.row.later (S := fun _ => False) (Mod.of_below (balloc (Below.refl _ _).drew _)) (fun _ _ h => h)
      obtain ⟨v', w2, er, hr, _, hm2, hb2, ⟨q, cap', rfl⟩, _⟩ := hrow.append 22 22 53 i0 (.agg #[.int .i64 0, .int .i64 0, .bool false]) 24 Try.underlying22 Hi.out Hz0.out Hz1.out Hz2.out rfl (by decide) ⟨wr.heap.size, 0, none⟩ 1 1 (mb1 (unr m)) rfl (mb1_at wr.drew (unr m)) (mb1_one (unr m)) (by decide) (by unfold maxLen; omega) (by omega)
      have HB2 : Hid (Below w.heap.size w w2) := Lib.hid (hm2.below b1 b1.size (fun i hi => HO.out.new i hi))
      have HO2 : Hid (OwnL w2 w.heap.size (some q) (k + 1) cap' ((l.take (k + 1)).map unr)) := Lib.hid (by
        rw [Hm.out]
        exact OwnL.more (w := wr) HO.out HB.out.size (unr m) hr (hb2.imp id (fun ⟨g, h1, h2⟩ => ⟨g, h1, by simp at h2; omega⟩)))
      have Er := Lib.hid er
      clear er hr hm2 hb2 hrow b1
      refine mix_append rfl rfl (.tmp 11) (.tmp 23) 22 rfl Er.out (cls HB2.out) ?_
      repeat (refine mix0 rfl (fun K hK => ?_); go_simp; refine hK _ ?_; clear hK K)
      refine mixEnd ?_
      go_wp2
      go_roundw
      case rel => exact ⟨k + 1, some q, cap', by go_num, by omega, rfl, HO2, HB2⟩
      case measure => simp [intOf]; omega
    · have hd : decide ((k : Int) < (n : Int)) = false := by simpa using hlt
      obtain rfl : k = n := by omega
      have hk' : l.take k = l := List.take_of_length_le (by rw [Hh.out.length]; omega)
      have HO' : Hid (OwnL wr w.heap.size B k bc (l.map unr)) := Lib.hid (by have := HO.out; rwa [hk'] at this)
      go_wp2
      go_ret
      exact ⟨B, k, bc, rfl, HO'.out, HB.out⟩
end Go.Proofs.Ytfdbkmncgngkjaa
