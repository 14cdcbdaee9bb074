/- QueueEnds: once all that are called have dropped to what they were told, the first one that waits is served; and so on, till nobody waits; for any changes from nothing on (sixty of them are made). -/
import Derived.Test.YtbeoigkjlgimdaaRows
import Derived.Test.YtbeoigkjlgimdaaPl9
import Derived.Test.YtbeoigkjlgimdaaPe9
namespace Go.Proofs.Ytbeoigkjlgimdaa.queueEnds
open Go.RowKit Go.ChangeShapes Go.WideShapes Go.ChangeAt
open Go.ChangeMaps (open_string shut_string)

set_option maxHeartbeats 2000000 in
set_option maxRecDepth 100000 in
theorem walk (x : Option Addr) (len cap : Nat) (vs : Nat → OpV) (W : World) (ho : IsOps W x len vs) (_ : len ≤ cap) :
    Calls Try.prog 4 #[.slice x len cap] W fun e W' => e = .returned (.bool true) ∧ Below W.heap.size W W' := by
  have hlen := ho.max
  have Hop := Lib.hid ho
  unfold maxLen at hlen
  clear ho
  go_enter Try.func4, Try.ntmps4
  go_wp2_with fail
  refine (awake_any W).mono ?_
  rintro e w0 ⟨rfl, hb⟩
  have B0 := Lib.hid hb
  clear hb
  go_wp2_with fail
  obtain ⟨b, Hb⟩ : ∃ x, Hid (w0.heap.size = x) := ⟨_, Lib.hid rfl⟩
  obtain ⟨w1, Hw1⟩ : ∃ x, Hid (w0.alloc (.cells #[.slice none 0 0, .slice none 0 0] 26) = x) := ⟨_, Lib.hid rfl⟩
  have X1 : Hid (BoxQ w1 b [] []) := Lib.hid (by rw [← Hw1.out, ← Hb.out]; exact BoxQ.new w0)
  have B1 : Hid (Below W.heap.size W w1) := Lib.hid (by rw [← Hw1.out]; exact balloc B0.out _)
  have HbW : Hid (W.heap.size ≤ b) := Lib.hid (by rw [← Hb.out]; exact B0.out.size)
  rw [Hw1.out, Hb.out]
  go_loopw [5, 6, 7, 8, 9, 10, 11, 12, 13] (fun i _ _ _ _ _ _ _ _ wr => ∃ (k : Nat) (h ws : List Cl), i = .int .i64 (k : Int) ∧ k ≤ 60 ∧ Hid (OkQ h ws) ∧ Hid (BoxQ wr b h ws) ∧ Hid (Below W.heap.size W wr)) (fun i _ _ _ _ _ _ _ _ _ => 60 - (intOf i).toNat)
  case atStart => exact ⟨0, [], [], rfl, by omega, Lib.hid ok_empty, X1, B1⟩
  case round =>
    obtain ⟨k, h, ws, rfl, hk, OK, X, HB⟩ := hrel
    by_cases hlt : k < len ∧ k < 60
    · obtain ⟨A, n, c, A2, n2, c2, a0, a1, q1, q2⟩ := X.out.is
      have Q := Lib.hid (And.intro q1 q2)
      have OK8 := ok_eight OK.out
      have hbl := X.out.lt
      clear q1 q2
      have i1 : (k : Int) < (len : Int) := by omega
      have i2 : (k : Int) < 60 := by omega
      obtain ⟨bo, off, rfl, hat⟩ := Hop.out.at HB.out hlt.1
      have ck := hat.kind
      have cn := hat.node
      have cm := hat.mode
      have hbo := lt_of_cell ck
      obtain ⟨o, Ho⟩ : ∃ o, Hid (vs k = o) := ⟨_, Lib.hid rfl⟩
      rw [Ho.out] at ck cn cm
      have BO : Below wr.heap.size wr (wr.alloc (.cells #[.int .i64 o.kind, .int .i64 o.node, .int .i64 o.mode] 28)) := balloc (Below.refl _ _) _
      clear hlt hat
      obtain ⟨r, hr⟩ : ∃ r, o.kind.tmod 6 = r := ⟨_, rfl⟩
      by_cases hneg : r < 0
      · obtain ⟨v, hw⟩ : ∃ v, IntKind.i64.wrap (r + 6) = v := ⟨_, rfl⟩
        cases h3 : (v == 3) with
        | true =>
          go_wp2_with fail
          refine (Drop_any _ (.agg #[.slice A n c, .slice A2 n2 c2]) h ws ⟨A, n, c, A2, n2, c2, rfl, Q.out.1.below BO, Q.out.2.below BO⟩ OK.out (by omega) (by omega) o.node o.mode).mono ?_
          rintro e u ⟨v', T, rfl, hq, hs, hb⟩
          obtain ⟨Bx, mx, dx, By, my, dy, rfl, j1, j2⟩ := hq.is
          obtain ⟨At, nt, ct, rfl, t1⟩ := hs.is
          have BU : Hid (Below wr.heap.size wr u) := Lib.hid (bnext BO hb)
          have Y := Lib.hid (X.out.below BU.out)
          have z0 := (BU.out.cell (p := ⟨b, 0, none⟩) hbl).trans a0
          have z1 := (BU.out.cell (p := ⟨b, 1, none⟩) hbl).trans a1
          have f0 := Y.out.f0
          have f1 := Y.out.f1
          have hbu := Y.out.lt
          have hal : Below ((u.setCell ⟨b, 0, none⟩ (.slice Bx mx dx)).setCell ⟨b, 1, none⟩ (.slice By my dy)).heap.size ((u.setCell ⟨b, 0, none⟩ (.slice Bx mx dx)).setCell ⟨b, 1, none⟩ (.slice By my dy)) (((u.setCell ⟨b, 0, none⟩ (.slice Bx mx dx)).setCell ⟨b, 1, none⟩ (.slice By my dy)).alloc (.cells #[.slice Bx mx dx, .slice By my dy] 26)) := balloc (Below.refl _ _) _
          have YA : BoxQ ((u.setCell ⟨b, 0, none⟩ (.slice Bx mx dx)).setCell ⟨b, 1, none⟩ (.slice By my dy)) b (newH .drop h ws o.node o.mode) (newW .drop h ws o.node o.mode) := Y.out.set j1 j2
          have XE : Hid (BoxQ (((u.setCell ⟨b, 0, none⟩ (.slice Bx mx dx)).setCell ⟨b, 1, none⟩ (.slice By my dy)).alloc (.cells #[.slice Bx mx dx, .slice By my dy] 26)) b (newH .drop h ws o.node o.mode) (newW .drop h ws o.node o.mode)) := Lib.hid (YA.below hal)
          have BE : Hid (Below W.heap.size W (((u.setCell ⟨b, 0, none⟩ (.slice Bx mx dx)).setCell ⟨b, 1, none⟩ (.slice By my dy)).alloc (.cells #[.slice Bx mx dx, .slice By my dy] 26))) := Lib.hid (bnext (setQ_below (bnext HB.out BU.out) HbW.out _ _) hal)
          have OKE := Lib.hid (new_ok .drop OK.out o.node o.mode)
          clear hq hs hb t1 j1 j2 hal YA
          go_wp2
          go_roundw
          case rel => exact ⟨k + 1, _, _, by go_num, by omega, OKE, XE, BE⟩
          case measure => simp [intOf]; omega
        | false =>
          cases h4 : (v == 4) with
          | true =>
            go_wp2_with fail
            refine (Drop_any _ (.agg #[.slice A n c, .slice A2 n2 c2]) h ws ⟨A, n, c, A2, n2, c2, rfl, Q.out.1.below BO, Q.out.2.below BO⟩ OK.out (by omega) (by omega) o.node o.mode).mono ?_
            rintro e u ⟨v', T, rfl, hq, hs, hb⟩
            obtain ⟨Bx, mx, dx, By, my, dy, rfl, j1, j2⟩ := hq.is
            obtain ⟨At, nt, ct, rfl, t1⟩ := hs.is
            have BU : Hid (Below wr.heap.size wr u) := Lib.hid (bnext BO hb)
            have Y := Lib.hid (X.out.below BU.out)
            have z0 := (BU.out.cell (p := ⟨b, 0, none⟩) hbl).trans a0
            have z1 := (BU.out.cell (p := ⟨b, 1, none⟩) hbl).trans a1
            have f0 := Y.out.f0
            have f1 := Y.out.f1
            have hbu := Y.out.lt
            have hal : Below ((u.setCell ⟨b, 0, none⟩ (.slice Bx mx dx)).setCell ⟨b, 1, none⟩ (.slice By my dy)).heap.size ((u.setCell ⟨b, 0, none⟩ (.slice Bx mx dx)).setCell ⟨b, 1, none⟩ (.slice By my dy)) (((u.setCell ⟨b, 0, none⟩ (.slice Bx mx dx)).setCell ⟨b, 1, none⟩ (.slice By my dy)).alloc (.cells #[.slice Bx mx dx, .slice By my dy] 26)) := balloc (Below.refl _ _) _
            have YA : BoxQ ((u.setCell ⟨b, 0, none⟩ (.slice Bx mx dx)).setCell ⟨b, 1, none⟩ (.slice By my dy)) b (newH .drop h ws o.node o.mode) (newW .drop h ws o.node o.mode) := Y.out.set j1 j2
            have XE : Hid (BoxQ (((u.setCell ⟨b, 0, none⟩ (.slice Bx mx dx)).setCell ⟨b, 1, none⟩ (.slice By my dy)).alloc (.cells #[.slice Bx mx dx, .slice By my dy] 26)) b (newH .drop h ws o.node o.mode) (newW .drop h ws o.node o.mode)) := Lib.hid (YA.below hal)
            have BE : Hid (Below W.heap.size W (((u.setCell ⟨b, 0, none⟩ (.slice Bx mx dx)).setCell ⟨b, 1, none⟩ (.slice By my dy)).alloc (.cells #[.slice Bx mx dx, .slice By my dy] 26))) := Lib.hid (bnext (setQ_below (bnext HB.out BU.out) HbW.out _ _) hal)
            have OKE := Lib.hid (new_ok .drop OK.out o.node o.mode)
            clear hq hs hb t1 j1 j2 hal YA
            go_wp2
            go_roundw
            case rel => exact ⟨k + 1, _, _, by go_num, by omega, OKE, XE, BE⟩
            case measure => simp [intOf]; omega
          | false =>
            cases h5 : (v == 5) with
            | true =>
              go_wp2_with fail
              refine (Leave_any _ (.agg #[.slice A n c, .slice A2 n2 c2]) h ws ⟨A, n, c, A2, n2, c2, rfl, Q.out.1.below BO, Q.out.2.below BO⟩ OK.out (by omega) (by omega) o.node).mono ?_
              rintro e u ⟨v', T, rfl, hq, hs, hb⟩
              obtain ⟨Bx, mx, dx, By, my, dy, rfl, j1, j2⟩ := hq.is
              obtain ⟨At, nt, ct, rfl, t1⟩ := hs.is
              have BU : Hid (Below wr.heap.size wr u) := Lib.hid (bnext BO hb)
              have Y := Lib.hid (X.out.below BU.out)
              have z0 := (BU.out.cell (p := ⟨b, 0, none⟩) hbl).trans a0
              have z1 := (BU.out.cell (p := ⟨b, 1, none⟩) hbl).trans a1
              have f0 := Y.out.f0
              have f1 := Y.out.f1
              have hbu := Y.out.lt
              have hal : Below ((u.setCell ⟨b, 0, none⟩ (.slice Bx mx dx)).setCell ⟨b, 1, none⟩ (.slice By my dy)).heap.size ((u.setCell ⟨b, 0, none⟩ (.slice Bx mx dx)).setCell ⟨b, 1, none⟩ (.slice By my dy)) (((u.setCell ⟨b, 0, none⟩ (.slice Bx mx dx)).setCell ⟨b, 1, none⟩ (.slice By my dy)).alloc (.cells #[.slice Bx mx dx, .slice By my dy] 26)) := balloc (Below.refl _ _) _
              have YA : BoxQ ((u.setCell ⟨b, 0, none⟩ (.slice Bx mx dx)).setCell ⟨b, 1, none⟩ (.slice By my dy)) b (newH .leave h ws o.node 0) (newW .leave h ws o.node 0) := Y.out.set j1 j2
              have XE : Hid (BoxQ (((u.setCell ⟨b, 0, none⟩ (.slice Bx mx dx)).setCell ⟨b, 1, none⟩ (.slice By my dy)).alloc (.cells #[.slice Bx mx dx, .slice By my dy] 26)) b (newH .leave h ws o.node 0) (newW .leave h ws o.node 0)) := Lib.hid (YA.below hal)
              have BE : Hid (Below W.heap.size W (((u.setCell ⟨b, 0, none⟩ (.slice Bx mx dx)).setCell ⟨b, 1, none⟩ (.slice By my dy)).alloc (.cells #[.slice Bx mx dx, .slice By my dy] 26))) := Lib.hid (bnext (setQ_below (bnext HB.out BU.out) HbW.out _ _) hal)
              have OKE := Lib.hid (new_ok .leave OK.out o.node 0)
              clear hq hs hb t1 j1 j2 hal YA
              go_wp2
              go_roundw
              case rel => exact ⟨k + 1, _, _, by go_num, by omega, OKE, XE, BE⟩
              case measure => simp [intOf]; omega
            | false =>
              go_wp2_with fail
              refine (Want_any _ (.agg #[.slice A n c, .slice A2 n2 c2]) h ws ⟨A, n, c, A2, n2, c2, rfl, Q.out.1.below BO, Q.out.2.below BO⟩ OK.out (by omega) (by omega) o.node o.mode).mono ?_
              rintro e u ⟨v', T, rfl, hq, hs, hb⟩
              obtain ⟨Bx, mx, dx, By, my, dy, rfl, j1, j2⟩ := hq.is
              obtain ⟨At, nt, ct, rfl, t1⟩ := hs.is
              have BU : Hid (Below wr.heap.size wr u) := Lib.hid (bnext BO hb)
              have Y := Lib.hid (X.out.below BU.out)
              have z0 := (BU.out.cell (p := ⟨b, 0, none⟩) hbl).trans a0
              have z1 := (BU.out.cell (p := ⟨b, 1, none⟩) hbl).trans a1
              have f0 := Y.out.f0
              have f1 := Y.out.f1
              have hbu := Y.out.lt
              have hal : Below ((u.setCell ⟨b, 0, none⟩ (.slice Bx mx dx)).setCell ⟨b, 1, none⟩ (.slice By my dy)).heap.size ((u.setCell ⟨b, 0, none⟩ (.slice Bx mx dx)).setCell ⟨b, 1, none⟩ (.slice By my dy)) (((u.setCell ⟨b, 0, none⟩ (.slice Bx mx dx)).setCell ⟨b, 1, none⟩ (.slice By my dy)).alloc (.cells #[.slice Bx mx dx, .slice By my dy] 26)) := balloc (Below.refl _ _) _
              have YA : BoxQ ((u.setCell ⟨b, 0, none⟩ (.slice Bx mx dx)).setCell ⟨b, 1, none⟩ (.slice By my dy)) b (newH .want h ws o.node o.mode) (newW .want h ws o.node o.mode) := Y.out.set j1 j2
              have XE : Hid (BoxQ (((u.setCell ⟨b, 0, none⟩ (.slice Bx mx dx)).setCell ⟨b, 1, none⟩ (.slice By my dy)).alloc (.cells #[.slice Bx mx dx, .slice By my dy] 26)) b (newH .want h ws o.node o.mode) (newW .want h ws o.node o.mode)) := Lib.hid (YA.below hal)
              have BE : Hid (Below W.heap.size W (((u.setCell ⟨b, 0, none⟩ (.slice Bx mx dx)).setCell ⟨b, 1, none⟩ (.slice By my dy)).alloc (.cells #[.slice Bx mx dx, .slice By my dy] 26))) := Lib.hid (bnext (setQ_below (bnext HB.out BU.out) HbW.out _ _) hal)
              have OKE := Lib.hid (new_ok .want OK.out o.node o.mode)
              clear hq hs hb t1 j1 j2 hal YA
              go_wp2
              go_roundw
              case rel => exact ⟨k + 1, _, _, by go_num, by omega, OKE, XE, BE⟩
              case measure => simp [intOf]; omega
      · cases h3 : (r == 3) with
        | true =>
          go_wp2_with fail
          refine (Drop_any _ (.agg #[.slice A n c, .slice A2 n2 c2]) h ws ⟨A, n, c, A2, n2, c2, rfl, Q.out.1.below BO, Q.out.2.below BO⟩ OK.out (by omega) (by omega) o.node o.mode).mono ?_
          rintro e u ⟨v', T, rfl, hq, hs, hb⟩
          obtain ⟨Bx, mx, dx, By, my, dy, rfl, j1, j2⟩ := hq.is
          obtain ⟨At, nt, ct, rfl, t1⟩ := hs.is
          have BU : Hid (Below wr.heap.size wr u) := Lib.hid (bnext BO hb)
          have Y := Lib.hid (X.out.below BU.out)
          have z0 := (BU.out.cell (p := ⟨b, 0, none⟩) hbl).trans a0
          have z1 := (BU.out.cell (p := ⟨b, 1, none⟩) hbl).trans a1
          have f0 := Y.out.f0
          have f1 := Y.out.f1
          have hbu := Y.out.lt
          have hal : Below ((u.setCell ⟨b, 0, none⟩ (.slice Bx mx dx)).setCell ⟨b, 1, none⟩ (.slice By my dy)).heap.size ((u.setCell ⟨b, 0, none⟩ (.slice Bx mx dx)).setCell ⟨b, 1, none⟩ (.slice By my dy)) (((u.setCell ⟨b, 0, none⟩ (.slice Bx mx dx)).setCell ⟨b, 1, none⟩ (.slice By my dy)).alloc (.cells #[.slice Bx mx dx, .slice By my dy] 26)) := balloc (Below.refl _ _) _
          have YA : BoxQ ((u.setCell ⟨b, 0, none⟩ (.slice Bx mx dx)).setCell ⟨b, 1, none⟩ (.slice By my dy)) b (newH .drop h ws o.node o.mode) (newW .drop h ws o.node o.mode) := Y.out.set j1 j2
          have XE : Hid (BoxQ (((u.setCell ⟨b, 0, none⟩ (.slice Bx mx dx)).setCell ⟨b, 1, none⟩ (.slice By my dy)).alloc (.cells #[.slice Bx mx dx, .slice By my dy] 26)) b (newH .drop h ws o.node o.mode) (newW .drop h ws o.node o.mode)) := Lib.hid (YA.below hal)
          have BE : Hid (Below W.heap.size W (((u.setCell ⟨b, 0, none⟩ (.slice Bx mx dx)).setCell ⟨b, 1, none⟩ (.slice By my dy)).alloc (.cells #[.slice Bx mx dx, .slice By my dy] 26))) := Lib.hid (bnext (setQ_below (bnext HB.out BU.out) HbW.out _ _) hal)
          have OKE := Lib.hid (new_ok .drop OK.out o.node o.mode)
          clear hq hs hb t1 j1 j2 hal YA
          go_wp2
          go_roundw
          case rel => exact ⟨k + 1, _, _, by go_num, by omega, OKE, XE, BE⟩
          case measure => simp [intOf]; omega
        | false =>
          cases h4 : (r == 4) with
          | true =>
            go_wp2_with fail
            refine (Drop_any _ (.agg #[.slice A n c, .slice A2 n2 c2]) h ws ⟨A, n, c, A2, n2, c2, rfl, Q.out.1.below BO, Q.out.2.below BO⟩ OK.out (by omega) (by omega) o.node o.mode).mono ?_
            rintro e u ⟨v', T, rfl, hq, hs, hb⟩
            obtain ⟨Bx, mx, dx, By, my, dy, rfl, j1, j2⟩ := hq.is
            obtain ⟨At, nt, ct, rfl, t1⟩ := hs.is
            have BU : Hid (Below wr.heap.size wr u) := Lib.hid (bnext BO hb)
            have Y := Lib.hid (X.out.below BU.out)
            have z0 := (BU.out.cell (p := ⟨b, 0, none⟩) hbl).trans a0
            have z1 := (BU.out.cell (p := ⟨b, 1, none⟩) hbl).trans a1
            have f0 := Y.out.f0
            have f1 := Y.out.f1
            have hbu := Y.out.lt
            have hal : Below ((u.setCell ⟨b, 0, none⟩ (.slice Bx mx dx)).setCell ⟨b, 1, none⟩ (.slice By my dy)).heap.size ((u.setCell ⟨b, 0, none⟩ (.slice Bx mx dx)).setCell ⟨b, 1, none⟩ (.slice By my dy)) (((u.setCell ⟨b, 0, none⟩ (.slice Bx mx dx)).setCell ⟨b, 1, none⟩ (.slice By my dy)).alloc (.cells #[.slice Bx mx dx, .slice By my dy] 26)) := balloc (Below.refl _ _) _
            have YA : BoxQ ((u.setCell ⟨b, 0, none⟩ (.slice Bx mx dx)).setCell ⟨b, 1, none⟩ (.slice By my dy)) b (newH .drop h ws o.node o.mode) (newW .drop h ws o.node o.mode) := Y.out.set j1 j2
            have XE : Hid (BoxQ (((u.setCell ⟨b, 0, none⟩ (.slice Bx mx dx)).setCell ⟨b, 1, none⟩ (.slice By my dy)).alloc (.cells #[.slice Bx mx dx, .slice By my dy] 26)) b (newH .drop h ws o.node o.mode) (newW .drop h ws o.node o.mode)) := Lib.hid (YA.below hal)
            have BE : Hid (Below W.heap.size W (((u.setCell ⟨b, 0, none⟩ (.slice Bx mx dx)).setCell ⟨b, 1, none⟩ (.slice By my dy)).alloc (.cells #[.slice Bx mx dx, .slice By my dy] 26))) := Lib.hid (bnext (setQ_below (bnext HB.out BU.out) HbW.out _ _) hal)
            have OKE := Lib.hid (new_ok .drop OK.out o.node o.mode)
            clear hq hs hb t1 j1 j2 hal YA
            go_wp2
            go_roundw
            case rel => exact ⟨k + 1, _, _, by go_num, by omega, OKE, XE, BE⟩
            case measure => simp [intOf]; omega
          | false =>
            cases h5 : (r == 5) with
            | true =>
              go_wp2_with fail
              refine (Leave_any _ (.agg #[.slice A n c, .slice A2 n2 c2]) h ws ⟨A, n, c, A2, n2, c2, rfl, Q.out.1.below BO, Q.out.2.below BO⟩ OK.out (by omega) (by omega) o.node).mono ?_
              rintro e u ⟨v', T, rfl, hq, hs, hb⟩
              obtain ⟨Bx, mx, dx, By, my, dy, rfl, j1, j2⟩ := hq.is
              obtain ⟨At, nt, ct, rfl, t1⟩ := hs.is
              have BU : Hid (Below wr.heap.size wr u) := Lib.hid (bnext BO hb)
              have Y := Lib.hid (X.out.below BU.out)
              have z0 := (BU.out.cell (p := ⟨b, 0, none⟩) hbl).trans a0
              have z1 := (BU.out.cell (p := ⟨b, 1, none⟩) hbl).trans a1
              have f0 := Y.out.f0
              have f1 := Y.out.f1
              have hbu := Y.out.lt
              have hal : Below ((u.setCell ⟨b, 0, none⟩ (.slice Bx mx dx)).setCell ⟨b, 1, none⟩ (.slice By my dy)).heap.size ((u.setCell ⟨b, 0, none⟩ (.slice Bx mx dx)).setCell ⟨b, 1, none⟩ (.slice By my dy)) (((u.setCell ⟨b, 0, none⟩ (.slice Bx mx dx)).setCell ⟨b, 1, none⟩ (.slice By my dy)).alloc (.cells #[.slice Bx mx dx, .slice By my dy] 26)) := balloc (Below.refl _ _) _
              have YA : BoxQ ((u.setCell ⟨b, 0, none⟩ (.slice Bx mx dx)).setCell ⟨b, 1, none⟩ (.slice By my dy)) b (newH .leave h ws o.node 0) (newW .leave h ws o.node 0) := Y.out.set j1 j2
              have XE : Hid (BoxQ (((u.setCell ⟨b, 0, none⟩ (.slice Bx mx dx)).setCell ⟨b, 1, none⟩ (.slice By my dy)).alloc (.cells #[.slice Bx mx dx, .slice By my dy] 26)) b (newH .leave h ws o.node 0) (newW .leave h ws o.node 0)) := Lib.hid (YA.below hal)
              have BE : Hid (Below W.heap.size W (((u.setCell ⟨b, 0, none⟩ (.slice Bx mx dx)).setCell ⟨b, 1, none⟩ (.slice By my dy)).alloc (.cells #[.slice Bx mx dx, .slice By my dy] 26))) := Lib.hid (bnext (setQ_below (bnext HB.out BU.out) HbW.out _ _) hal)
              have OKE := Lib.hid (new_ok .leave OK.out o.node 0)
              clear hq hs hb t1 j1 j2 hal YA
              go_wp2
              go_roundw
              case rel => exact ⟨k + 1, _, _, by go_num, by omega, OKE, XE, BE⟩
              case measure => simp [intOf]; omega
            | false =>
              go_wp2_with fail
              refine (Want_any _ (.agg #[.slice A n c, .slice A2 n2 c2]) h ws ⟨A, n, c, A2, n2, c2, rfl, Q.out.1.below BO, Q.out.2.below BO⟩ OK.out (by omega) (by omega) o.node o.mode).mono ?_
              rintro e u ⟨v', T, rfl, hq, hs, hb⟩
              obtain ⟨Bx, mx, dx, By, my, dy, rfl, j1, j2⟩ := hq.is
              obtain ⟨At, nt, ct, rfl, t1⟩ := hs.is
              have BU : Hid (Below wr.heap.size wr u) := Lib.hid (bnext BO hb)
              have Y := Lib.hid (X.out.below BU.out)
              have z0 := (BU.out.cell (p := ⟨b, 0, none⟩) hbl).trans a0
              have z1 := (BU.out.cell (p := ⟨b, 1, none⟩) hbl).trans a1
              have f0 := Y.out.f0
              have f1 := Y.out.f1
              have hbu := Y.out.lt
              have hal : Below ((u.setCell ⟨b, 0, none⟩ (.slice Bx mx dx)).setCell ⟨b, 1, none⟩ (.slice By my dy)).heap.size ((u.setCell ⟨b, 0, none⟩ (.slice Bx mx dx)).setCell ⟨b, 1, none⟩ (.slice By my dy)) (((u.setCell ⟨b, 0, none⟩ (.slice Bx mx dx)).setCell ⟨b, 1, none⟩ (.slice By my dy)).alloc (.cells #[.slice Bx mx dx, .slice By my dy] 26)) := balloc (Below.refl _ _) _
              have YA : BoxQ ((u.setCell ⟨b, 0, none⟩ (.slice Bx mx dx)).setCell ⟨b, 1, none⟩ (.slice By my dy)) b (newH .want h ws o.node o.mode) (newW .want h ws o.node o.mode) := Y.out.set j1 j2
              have XE : Hid (BoxQ (((u.setCell ⟨b, 0, none⟩ (.slice Bx mx dx)).setCell ⟨b, 1, none⟩ (.slice By my dy)).alloc (.cells #[.slice Bx mx dx, .slice By my dy] 26)) b (newH .want h ws o.node o.mode) (newW .want h ws o.node o.mode)) := Lib.hid (YA.below hal)
              have BE : Hid (Below W.heap.size W (((u.setCell ⟨b, 0, none⟩ (.slice Bx mx dx)).setCell ⟨b, 1, none⟩ (.slice By my dy)).alloc (.cells #[.slice Bx mx dx, .slice By my dy] 26))) := Lib.hid (bnext (setQ_below (bnext HB.out BU.out) HbW.out _ _) hal)
              have OKE := Lib.hid (new_ok .want OK.out o.node o.mode)
              clear hq hs hb t1 j1 j2 hal YA
              go_wp2
              go_roundw
              case rel => exact ⟨k + 1, _, _, by go_num, by omega, OKE, XE, BE⟩
              case measure => simp [intOf]; omega
    · have hdone : (¬ (k : Int) < (len : Int)) ∨ ((k : Int) < (len : Int) ∧ ¬ (k : Int) < 60) := by omega
      have OK8 := ok_eight OK.out
      rcases hdone with i1 | ⟨i1, i2⟩
      all_goals
        clear hlt
        go_wp2_with fail
        go_loopw [14, 15, 16, 17, 18, 19, 20] (fun i _ _ _ _ _ _ wq => ∃ (q : Nat) (h9 ws9 : List Cl), i = .int .i64 (q : Int) ∧ q + ws9.length ≤ 8 ∧ Hid (OkQ h9 ws9) ∧ Hid (BoxQ wq b h9 ws9) ∧ Hid (Below W.heap.size W wq)) (fun i _ _ _ _ _ _ _ => 20 - (intOf i).toNat)
        case atStart => exact ⟨0, h, ws, rfl, by omega, OK, X, HB⟩
        case round =>
          clear OK X HB OK8 hk i1
          obtain ⟨q, h9, ws9, rfl, hq8, OK9, X9, HB9⟩ := hrel
          have OK89 := ok_eight OK9.out
          obtain ⟨A, n, c, A2, n2, c2, a0, a1, q1, q2⟩ := X9.out.is
          have Q9 := Lib.hid (And.intro q1 q2)
          have hbl := X9.out.lt
          have hn2 := q2.length
          have hq20 : (q : Int) < 20 := by omega
          cases ws9 with
          | nil =>
            obtain rfl : n2 = 0 := by simpa using hn2.symm
            clear q1 q2 hn2
            go_wp2_with fail
            refine (Calls_any wr (.agg #[.slice A n c, .slice A2 0 c2]) h9 [] ⟨A, n, c, A2, 0, c2, rfl, Q9.out.1, Q9.out.2⟩ (by omega)).mono ?_
            rintro e u ⟨T, rfl, hs, hb⟩
            obtain ⟨At, nt, ct, rfl, t1⟩ := hs.is
            obtain rfl : nt = 0 := IsC.none t1
            have BE := Lib.hid (bnext HB9.out hb)
            clear hs t1 hb
            go_wp2
            go_ret
            exact ⟨rfl, BE.out⟩
          | cons x9 t9 =>
            obtain ⟨g2, off2, rfl, b0, b1, hn2'⟩ := q2.first
            have hn1 : 0 < n2 := by omega
            have hn1i : (0 : Int) < (n2 : Int) := by omega
            have HT := Lib.hid (turn_ends OK9.out)
            have hlw : t9.length + 1 ≤ 8 := by have := OK89.2; simpa using this
            rw [List.length_cons] at hq8
            obtain ⟨p15, Hp15⟩ : ∃ x, Hid (wr.heap.size = x) := ⟨_, Lib.hid rfl⟩
            obtain ⟨W5, HW5⟩ : ∃ x, Hid (wr.alloc (.cells #[.int .i64 x9.1, .int .i64 x9.2] 37) = x) := ⟨_, Lib.hid rfl⟩
            have B5 : Hid (Below wr.heap.size wr W5) := Lib.hid (by rw [← HW5.out]; exact balloc (Below.refl _ _) _)
            have F5 : Hid (W5.cell? ⟨p15, 0, none⟩ = some (.int .i64 x9.1) ∧ W5.cell? ⟨p15, 1, none⟩ = some (.int .i64 x9.2)) := Lib.hid (by rw [← HW5.out, ← Hp15.out]; exact ⟨by simp [go_sem], by simp [go_sem]⟩)
            have hp15b : p15 ≠ b := by have := Hp15.out; omega
            clear q1 q2 hn2 hn2'
            go_wp2_with fail
            rw [HW5.out, Hp15.out]
            refine (Calls_any W5 (.agg #[.slice A n c, .slice (some ⟨g2, off2, none⟩) n2 c2]) h9 (x9 :: t9) ⟨A, n, c, _, n2, c2, rfl, Q9.out.1.below B5.out, Q9.out.2.below B5.out⟩ (by omega)).mono ?_
            rintro e u ⟨T, rfl, hs, hb⟩
            obtain ⟨At, nt, ct, rfl, t1⟩ := hs.is
            obtain ⟨l9, Hl9⟩ : ∃ l, Hid (cM h9 x9 = l) := ⟨_, Lib.hid rfl⟩
            obtain ⟨ws9, Hws9⟩ : ∃ l, Hid (x9 :: t9 = l) := ⟨_, Lib.hid rfl⟩
            have t2 : IsC u At nt l9 := by rw [← Hl9.out]; exact t1
            have HT9 := HT
            rw [Hl9.out, Hws9.out] at HT9
            have hntne : nt ≠ 0 := fun e => HT9.out.1 (List.eq_nil_of_length_eq_zero (by rw [t2.length, e]))
            have HT9 := Lib.hid HT9.out.2
            have hntb : ((nt : Int) == 0) = false := by simpa using hntne
            have QC := Lib.hid t2
            have BC : Hid (Below W.heap.size W u) := Lib.hid (bnext HB9.out (bnext B5.out hb))
            have XC : Hid (BoxQ u b h9 ws9) := Lib.hid (by rw [← Hws9.out]; exact X9.out.below (bnext B5.out hb))
            have FC : Hid (u.cell? ⟨p15, 0, none⟩ = some (.int .i64 x9.1) ∧ u.cell? ⟨p15, 1, none⟩ = some (.int .i64 x9.2)) := Lib.hid ⟨(hb.cell (p := ⟨p15, 0, none⟩) (lt_of_cell F5.out.1)).trans F5.out.1, (hb.cell (p := ⟨p15, 1, none⟩) (lt_of_cell F5.out.1)).trans F5.out.2⟩
            obtain ⟨n9, Hn9'⟩ : ∃ n, Hid (n2 = n) := ⟨_, Lib.hid rfl⟩
            have Hn9 : Hid (t9.length + 1 = n9) := Lib.hid (by rw [← Hn9'.out]; have := Q9.out.2.length; simpa using this)
            rw [Hws9.out] at OK9
            rw [Hn9'.out]
            have hk9' : q + (t9.length + 1) ≤ 8 := hq8
            clear hs t1 t2 hb hntne b0 b1
            go_wp2_with fail
            go_loopw [18, 19, 20] (fun i _ _ wi => ∃ (j : Nat), i = .int .i64 (j : Int) ∧ j ≤ nt ∧ Hid (BoxQ wi b (dropAll h9 ws9 (l9.take j)).1 (dropAll h9 ws9 (l9.take j)).2) ∧ Hid (Below W.heap.size W wi) ∧ Hid (IsC wi At nt l9) ∧ Hid (wi.cell? ⟨p15, 0, none⟩ = some (.int .i64 x9.1) ∧ wi.cell? ⟨p15, 1, none⟩ = some (.int .i64 x9.2))) (fun i _ _ _ => nt - (intOf i).toNat)
            case atStart => exact ⟨0, rfl, by omega, Lib.hid XC.out, BC, QC, FC⟩
            case round =>
              obtain ⟨j, rfl, hj, Xj, BI, QT, F15⟩ := hrel
              have hnt := QT.out.small
              by_cases hjn : j < nt
              · have hjn' : (j : Int) < (nt : Int) := by omega
                obtain ⟨d, hd⟩ : ∃ y, l9[j]? = some y := ⟨_, List.getElem?_eq_getElem (by rw [QT.out.length]; exact hjn)⟩
                have OKj := Lib.hid (dropAll_ok (l9.take j) OK9.out)
                have Hnx : Hid (dropAll h9 ws9 (l9.take (j + 1)) = (newH .drop (dropAll h9 ws9 (l9.take j)).1 (dropAll h9 ws9 (l9.take j)).2 d.1 d.2, newW .drop (dropAll h9 ws9 (l9.take j)).1 (dropAll h9 ws9 (l9.take j)).2 d.1 d.2)) := Lib.hid (by
                  obtain ⟨hk2, e2⟩ := List.getElem?_eq_some_iff.1 hd
                  rw [List.take_succ_eq_append_getElem hk2, e2, dropAll_snoc])
                obtain ⟨hj, Hhj⟩ : ∃ y, Hid ((dropAll h9 ws9 (l9.take j)).1 = y) := ⟨_, Lib.hid rfl⟩
                obtain ⟨wj, Hwj⟩ : ∃ y, Hid ((dropAll h9 ws9 (l9.take j)).2 = y) := ⟨_, Lib.hid rfl⟩
                rw [Hhj.out, Hwj.out] at Hnx Xj OKj
                have OK8j := ok_eight OKj.out
                obtain ⟨g, o2, rfl, hg, hcs⟩ := QT.out.cells (by omega)
                obtain ⟨c0, c1⟩ := hcs j d hd
                obtain ⟨A, n, c, A2, n2, c2, a0, a1, q1, q2⟩ := Xj.out.is
                have Qj := Lib.hid (And.intro q1 q2)
                have hbr := Xj.out.lt
                have hp15 := lt_of_cell F15.out.1
                have r0 : ∀ y : In (Abv wr), y.u.cell? ⟨b, 0, none⟩ = some (.slice A n c) := fun y => (y.is.cell (p := ⟨b, 0, none⟩) hbr).trans a0
                have r1 : ∀ y : In (Abv wr), y.u.cell? ⟨b, 1, none⟩ = some (.slice A2 n2 c2) := fun y => (y.is.cell (p := ⟨b, 1, none⟩) hbr).trans a1
                have r2 : ∀ y : In (Abv wr), y.u.cell? ⟨g, o2 + j * 2, none⟩ = some (.int .i64 d.1) := fun y => (y.is.cell (p := ⟨g, o2 + j * 2, none⟩) hg).trans c0
                have r3 : ∀ y : In (Abv wr), y.u.cell? ⟨g, o2 + j * 2 + 1, none⟩ = some (.int .i64 d.2) := fun y => (y.is.cell (p := ⟨g, o2 + j * 2 + 1, none⟩) hg).trans c1
                clear hd hcs q1 q2 a0 a1 c0 c1
                go_wp2_with fail
                refine wp_region_mixY (by kernel_rfl) (Cls (Abv wr)) 15 [(0, 0), (1, 0), (2, 0), (3, 0), (4, 0), (5, 0), (6, 0), (7, 0), (8, 0), (9, 0), (10, 0), (11, 1), (12, 0), (13, 0), (14, 0)] [(16, 1), (17, 0)] (by kernel_rfl) (cls (Below.refl _ wr).drew) ?_
                obtain ⟨wd, Hwd⟩ : ∃ x, Hid (wr.drew = x) := ⟨_, Lib.hid rfl⟩
                have Bd : Hid (Abv wr wd) := Lib.hid (by rw [← Hwd.out]; exact drew_same wr)
                rw [Hwd.out]
                repeat (refine mixY0 rfl (fun K hK => ?_); go_simp; refine hK _ ?_; clear hK K)
                refine mixY1 rfl rfl (fun K hK => ?_) (fun K hK => ?_)
                · go_simp
                  obtain ⟨p19, Hp19⟩ : ∃ x, Hid (wd.heap.size = x) := ⟨_, Lib.hid rfl⟩
                  obtain ⟨wa, Hwa⟩ : ∃ x, Hid (wd.alloc (.cells #[.slice none 0 0, .slice none 0 0] 26) = x) := ⟨_, Lib.hid rfl⟩
                  have hba : Below wd.heap.size wd wa := by rw [← Hwa.out]; exact balloc (Below.refl _ _) _
                  have Za : Hid (BoxQ wa p19 [] []) := Lib.hid (by rw [← Hwa.out, ← Hp19.out]; exact BoxQ.new wd)
                  rw [Hp19.out, Hwa.out]
                  have Ba : Hid (Abv wr wa) := Lib.hid (bnext Bd.out hba)
                  refine hK _ _ (cls Ba.out) ?_
                  clear hK K hba
                  refine mix1 rfl (fun K hK => ?_)
                  go_simp
                  refine (Drop_any wa (.agg #[.slice A n c, .slice A2 n2 c2]) hj wj ⟨A, n, c, A2, n2, c2, rfl, Qj.out.1.below Ba.out, Qj.out.2.below Ba.out⟩ OKj.out (by omega) (by omega) d.1 d.2).mono ?_
                  rintro e u ⟨v', T, rfl, hq, hs, hb⟩
                  obtain ⟨Bx, mx, dx, By, my, dy, rfl, j1, j2⟩ := hq.is
                  obtain ⟨At9, nt9, ct9, rfl, t9⟩ := hs.is
                  have Bu : Hid (Abv wr u) := Lib.hid (bnext Ba.out hb)
                  have Zu := Lib.hid (Za.out.below hb)
                  have Hp19b : Hid (wr.heap.size ≤ p19) := Lib.hid (by rw [← Hp19.out]; exact Bd.out.size)
                  have J := Lib.hid (And.intro j1 j2)
                  refine ⟨_, rfl, hK _ _ (cls Bu.out) ?_⟩
                  clear hK K hq hs j1 j2 t9 hb
                  repeat (refine mix0 rfl (fun K hK => ?_); go_simp; refine hK _ ?_; clear hK K)
                  obtain ⟨B5, m5, d5, B6, m6, d6, z0, z1, _, _⟩ := Zu.out.is
                  have f0 := Zu.out.f0
                  have f1 := Zu.out.f1
                  refine mix1 rfl (fun K hK => ?_)
                  go_simp
                  have ZS : Hid (BoxQ ((u.setCell ⟨p19, 0, none⟩ (.slice Bx mx dx)).setCell ⟨p19, 1, none⟩ (.slice By my dy)) p19 (newH .drop hj wj d.1 d.2) (newW .drop hj wj d.1 d.2)) := Lib.hid (Zu.out.set J.out.1 J.out.2)
                  have hne9 : b ≠ p19 := by have := Hp19b.out; omega
                  have XS : Hid (BoxQ ((u.setCell ⟨p19, 0, none⟩ (.slice Bx mx dx)).setCell ⟨p19, 1, none⟩ (.slice By my dy)) b hj wj) := Lib.hid (Zu.out.other (Xj.out.below Bu.out) hne9 _ _)
                  have KS : Kp u ((u.setCell ⟨p19, 0, none⟩ (.slice Bx mx dx)).setCell ⟨p19, 1, none⟩ (.slice By my dy)) := Zu.out.kp _ _
                  have BS : Hid (Abv wr ((u.setCell ⟨p19, 0, none⟩ (.slice Bx mx dx)).setCell ⟨p19, 1, none⟩ (.slice By my dy))) := Lib.hid (setQ_below Bu.out Hp19b.out _ _)
                  refine hK _ _ (cls BS.out) ?_
                  clear hK K
                  repeat (refine mix0 rfl (fun K hK => ?_); go_simp; refine hK _ ?_; clear hK K)
                  refine mixEnd ?_
                  have e0 : ((u.setCell ⟨p19, 0, none⟩ (.slice Bx mx dx)).setCell ⟨p19, 1, none⟩ (.slice By my dy)).cell? ⟨p19, 0, none⟩ = some (.slice Bx mx dx) := set_other (by simp) (set_same z0)
                  have e1 : ((u.setCell ⟨p19, 0, none⟩ (.slice Bx mx dx)).setCell ⟨p19, 1, none⟩ (.slice By my dy)).cell? ⟨p19, 1, none⟩ = some (.slice By my dy) := set_same (set_other (by simp) z1)
                  clear z0 z1 f0 f1 r0 r1 r2 r3
                  obtain ⟨B7, m7, d7, B8, m8, d8, z0, z1, _, _⟩ := XS.out.is
                  have f0 := XS.out.f0
                  have f1 := XS.out.f1
                  have JS := Lib.hid (And.intro (KS _ _ _ J.out.1) (KS _ _ _ J.out.2))
                  have XE : Hid (BoxQ ((((u.setCell ⟨p19, 0, none⟩ (.slice Bx mx dx)).setCell ⟨p19, 1, none⟩ (.slice By my dy)).setCell ⟨b, 0, none⟩ (.slice Bx mx dx)).setCell ⟨b, 1, none⟩ (.slice By my dy)) b (dropAll h9 ws9 (l9.take (j + 1))).1 (dropAll h9 ws9 (l9.take (j + 1))).2) := Lib.hid (by rw [Hnx.out]; exact XS.out.set JS.out.1 JS.out.2)
                  have KE : Kp wr ((((u.setCell ⟨p19, 0, none⟩ (.slice Bx mx dx)).setCell ⟨p19, 1, none⟩ (.slice By my dy)).setCell ⟨b, 0, none⟩ (.slice Bx mx dx)).setCell ⟨b, 1, none⟩ (.slice By my dy)) := ((Kp.of Bu.out).trans KS).trans (XS.out.kp _ _)
                  have BE : Hid (Below W.heap.size W ((((u.setCell ⟨p19, 0, none⟩ (.slice Bx mx dx)).setCell ⟨p19, 1, none⟩ (.slice By my dy)).setCell ⟨b, 0, none⟩ (.slice Bx mx dx)).setCell ⟨b, 1, none⟩ (.slice By my dy))) := Lib.hid (setQ_below (bnext BI.out BS.out) HbW.out _ _)
                  have QE : Hid (IsC ((((u.setCell ⟨p19, 0, none⟩ (.slice Bx mx dx)).setCell ⟨p19, 1, none⟩ (.slice By my dy)).setCell ⟨b, 0, none⟩ (.slice Bx mx dx)).setCell ⟨b, 1, none⟩ (.slice By my dy)) (some ⟨g, o2, none⟩) nt l9) := Lib.hid (KE _ _ _ QT.out)
                  have FE : Hid (((((u.setCell ⟨p19, 0, none⟩ (.slice Bx mx dx)).setCell ⟨p19, 1, none⟩ (.slice By my dy)).setCell ⟨b, 0, none⟩ (.slice Bx mx dx)).setCell ⟨b, 1, none⟩ (.slice By my dy)).cell? ⟨p15, 0, none⟩ = some (.int .i64 x9.1) ∧ ((((u.setCell ⟨p19, 0, none⟩ (.slice Bx mx dx)).setCell ⟨p19, 1, none⟩ (.slice By my dy)).setCell ⟨b, 0, none⟩ (.slice Bx mx dx)).setCell ⟨b, 1, none⟩ (.slice By my dy)).cell? ⟨p15, 1, none⟩ = some (.int .i64 x9.2)) := Lib.hid ⟨((setQ_mod ((u.setCell ⟨p19, 0, none⟩ (.slice Bx mx dx)).setCell ⟨p19, 1, none⟩ (.slice By my dy)) b _ _).cell (p := ⟨p15, 0, none⟩) (Nat.lt_of_lt_of_le hp15 BS.out.size) hp15b).trans ((BS.out.cell (p := ⟨p15, 0, none⟩) hp15).trans F15.out.1), ((setQ_mod ((u.setCell ⟨p19, 0, none⟩ (.slice Bx mx dx)).setCell ⟨p19, 1, none⟩ (.slice By my dy)) b _ _).cell (p := ⟨p15, 1, none⟩) (Nat.lt_of_lt_of_le hp15 BS.out.size) hp15b).trans ((BS.out.cell (p := ⟨p15, 1, none⟩) hp15).trans F15.out.2)⟩
                  clear KE KS
                  go_wp2
                  go_roundw
                  case rel => exact ⟨j + 1, by go_num, by omega, XE, BE, QE, FE⟩
                  case measure => simp [intOf]; omega
                · go_simp
                  refine (Drop_any wd (.agg #[.slice A n c, .slice A2 n2 c2]) hj wj ⟨A, n, c, A2, n2, c2, rfl, Qj.out.1.below Bd.out, Qj.out.2.below Bd.out⟩ OKj.out (by omega) (by omega) d.1 d.2).mono ?_
                  rintro e u ⟨v', T, rfl, hq, hs, hb⟩
                  obtain ⟨Bx, mx, dx, By, my, dy, rfl, j1, j2⟩ := hq.is
                  obtain ⟨At9, nt9, ct9, rfl, t9⟩ := hs.is
                  have Bu0 : Hid (Abv wr u) := Lib.hid (bnext Bd.out hb)
                  refine ⟨_, rfl, hK _ _ (cls Bu0.out) ?_⟩
                  clear hK K hq hs t9 hb
                  repeat (refine mixY0 rfl (fun K hK => ?_); go_simp; refine hK _ ?_; clear hK K)
                  refine mixYe rfl (fun K hK => ?_)
                  go_simp
                  obtain ⟨p19, Hp19⟩ : ∃ x, Hid (u.heap.size = x) := ⟨_, Lib.hid rfl⟩
                  obtain ⟨wa, Hwa⟩ : ∃ x, Hid (u.alloc (.cells #[.slice none 0 0, .slice none 0 0] 26) = x) := ⟨_, Lib.hid rfl⟩
                  have hba : Below u.heap.size u wa := by rw [← Hwa.out]; exact balloc (Below.refl _ _) _
                  have Za : Hid (BoxQ wa p19 [] []) := Lib.hid (by rw [← Hwa.out, ← Hp19.out]; exact BoxQ.new u)
                  rw [Hp19.out, Hwa.out]
                  have Bu : Hid (Abv wr wa) := Lib.hid (bnext Bu0.out hba)
                  have Zu := Za
                  have Hp19b : Hid (wr.heap.size ≤ p19) := Lib.hid (by rw [← Hp19.out]; exact Bu0.out.size)
                  have J := Lib.hid (And.intro (j1.below hba) (j2.below hba))
                  refine hK _ _ (cls Bu.out) ?_
                  clear hK K j1 j2 hba
                  obtain ⟨B5, m5, d5, B6, m6, d6, z0, z1, _, _⟩ := Zu.out.is
                  have f0 := Zu.out.f0
                  have f1 := Zu.out.f1
                  refine mix1 rfl (fun K hK => ?_)
                  go_simp
                  have ZS : Hid (BoxQ ((wa.setCell ⟨p19, 0, none⟩ (.slice Bx mx dx)).setCell ⟨p19, 1, none⟩ (.slice By my dy)) p19 (newH .drop hj wj d.1 d.2) (newW .drop hj wj d.1 d.2)) := Lib.hid (Zu.out.set J.out.1 J.out.2)
                  have hne9 : b ≠ p19 := by have := Hp19b.out; omega
                  have XS : Hid (BoxQ ((wa.setCell ⟨p19, 0, none⟩ (.slice Bx mx dx)).setCell ⟨p19, 1, none⟩ (.slice By my dy)) b hj wj) := Lib.hid (Zu.out.other (Xj.out.below Bu.out) hne9 _ _)
                  have KS : Kp wa ((wa.setCell ⟨p19, 0, none⟩ (.slice Bx mx dx)).setCell ⟨p19, 1, none⟩ (.slice By my dy)) := Zu.out.kp _ _
                  have BS : Hid (Abv wr ((wa.setCell ⟨p19, 0, none⟩ (.slice Bx mx dx)).setCell ⟨p19, 1, none⟩ (.slice By my dy))) := Lib.hid (setQ_below Bu.out Hp19b.out _ _)
                  refine hK _ _ (cls BS.out) ?_
                  clear hK K
                  repeat (refine mix0 rfl (fun K hK => ?_); go_simp; refine hK _ ?_; clear hK K)
                  refine mixEnd ?_
                  have e0 : ((wa.setCell ⟨p19, 0, none⟩ (.slice Bx mx dx)).setCell ⟨p19, 1, none⟩ (.slice By my dy)).cell? ⟨p19, 0, none⟩ = some (.slice Bx mx dx) := set_other (by simp) (set_same z0)
                  have e1 : ((wa.setCell ⟨p19, 0, none⟩ (.slice Bx mx dx)).setCell ⟨p19, 1, none⟩ (.slice By my dy)).cell? ⟨p19, 1, none⟩ = some (.slice By my dy) := set_same (set_other (by simp) z1)
                  clear z0 z1 f0 f1 r0 r1 r2 r3
                  obtain ⟨B7, m7, d7, B8, m8, d8, z0, z1, _, _⟩ := XS.out.is
                  have f0 := XS.out.f0
                  have f1 := XS.out.f1
                  have JS := Lib.hid (And.intro (KS _ _ _ J.out.1) (KS _ _ _ J.out.2))
                  have XE : Hid (BoxQ ((((wa.setCell ⟨p19, 0, none⟩ (.slice Bx mx dx)).setCell ⟨p19, 1, none⟩ (.slice By my dy)).setCell ⟨b, 0, none⟩ (.slice Bx mx dx)).setCell ⟨b, 1, none⟩ (.slice By my dy)) b (dropAll h9 ws9 (l9.take (j + 1))).1 (dropAll h9 ws9 (l9.take (j + 1))).2) := Lib.hid (by rw [Hnx.out]; exact XS.out.set JS.out.1 JS.out.2)
                  have KE : Kp wr ((((wa.setCell ⟨p19, 0, none⟩ (.slice Bx mx dx)).setCell ⟨p19, 1, none⟩ (.slice By my dy)).setCell ⟨b, 0, none⟩ (.slice Bx mx dx)).setCell ⟨b, 1, none⟩ (.slice By my dy)) := ((Kp.of Bu.out).trans KS).trans (XS.out.kp _ _)
                  have BE : Hid (Below W.heap.size W ((((wa.setCell ⟨p19, 0, none⟩ (.slice Bx mx dx)).setCell ⟨p19, 1, none⟩ (.slice By my dy)).setCell ⟨b, 0, none⟩ (.slice Bx mx dx)).setCell ⟨b, 1, none⟩ (.slice By my dy))) := Lib.hid (setQ_below (bnext BI.out BS.out) HbW.out _ _)
                  have QE : Hid (IsC ((((wa.setCell ⟨p19, 0, none⟩ (.slice Bx mx dx)).setCell ⟨p19, 1, none⟩ (.slice By my dy)).setCell ⟨b, 0, none⟩ (.slice Bx mx dx)).setCell ⟨b, 1, none⟩ (.slice By my dy)) (some ⟨g, o2, none⟩) nt l9) := Lib.hid (KE _ _ _ QT.out)
                  have FE : Hid (((((wa.setCell ⟨p19, 0, none⟩ (.slice Bx mx dx)).setCell ⟨p19, 1, none⟩ (.slice By my dy)).setCell ⟨b, 0, none⟩ (.slice Bx mx dx)).setCell ⟨b, 1, none⟩ (.slice By my dy)).cell? ⟨p15, 0, none⟩ = some (.int .i64 x9.1) ∧ ((((wa.setCell ⟨p19, 0, none⟩ (.slice Bx mx dx)).setCell ⟨p19, 1, none⟩ (.slice By my dy)).setCell ⟨b, 0, none⟩ (.slice Bx mx dx)).setCell ⟨b, 1, none⟩ (.slice By my dy)).cell? ⟨p15, 1, none⟩ = some (.int .i64 x9.2)) := Lib.hid ⟨((setQ_mod ((wa.setCell ⟨p19, 0, none⟩ (.slice Bx mx dx)).setCell ⟨p19, 1, none⟩ (.slice By my dy)) b _ _).cell (p := ⟨p15, 0, none⟩) (Nat.lt_of_lt_of_le hp15 BS.out.size) hp15b).trans ((BS.out.cell (p := ⟨p15, 0, none⟩) hp15).trans F15.out.1), ((setQ_mod ((wa.setCell ⟨p19, 0, none⟩ (.slice Bx mx dx)).setCell ⟨p19, 1, none⟩ (.slice By my dy)) b _ _).cell (p := ⟨p15, 1, none⟩) (Nat.lt_of_lt_of_le hp15 BS.out.size) hp15b).trans ((BS.out.cell (p := ⟨p15, 1, none⟩) hp15).trans F15.out.2)⟩
                  clear KE KS
                  go_wp2
                  go_roundw
                  case rel => exact ⟨j + 1, by go_num, by omega, XE, BE, QE, FE⟩
                  case measure => simp [intOf]; omega
              · have hjn' : ¬ (j : Int) < (nt : Int) := by omega
                have HL : Hid (l9.take j = l9) := Lib.hid (List.take_of_length_le (by rw [QT.out.length]; omega))
                rw [HL.out] at Xj
                have OKj := Lib.hid (dropAll_ok l9 OK9.out)
                obtain ⟨hj, Hhj⟩ : ∃ y, Hid ((dropAll h9 ws9 l9).1 = y) := ⟨_, Lib.hid rfl⟩
                obtain ⟨wj, Hwj⟩ : ∃ y, Hid ((dropAll h9 ws9 l9).2 = y) := ⟨_, Lib.hid rfl⟩
                have HEnd := HT9
                rw [Hhj.out, Hwj.out] at Xj OKj HEnd
                obtain ⟨A, n, c, A2, n2, c2, a0, a1, q1, q2⟩ := Xj.out.is
                have Qj := Lib.hid (And.intro q1 q2)
                have hbr := Xj.out.lt
                have hp15 := lt_of_cell F15.out.1
                have hlen2 : n2 = wj.length := q2.length.symm
                have hlt9 : wj.length < n9 := by have := HEnd.out.2; have := Hn9.out; omega
                have hle9 : ¬ ((n9 : Int) ≤ (n2 : Int)) := by rw [hlen2]; omega
                have hle8 : ¬ (n9 ≤ n2) := by rw [hlen2]; omega
                have hxx : (x9.2 != x9.2) = false := bne_no rfl
                have hk9 : q + 1 + wj.length ≤ 8 := by have := Hn9.out; omega
                have F0 := F15.out.1
                have F1 := F15.out.2
                have r0 : ∀ y : In (Abv wr), y.u.cell? ⟨b, 0, none⟩ = some (.slice A n c) := fun y => (y.is.cell (p := ⟨b, 0, none⟩) hbr).trans a0
                have r1 : ∀ y : In (Abv wr), y.u.cell? ⟨b, 1, none⟩ = some (.slice A2 n2 c2) := fun y => (y.is.cell (p := ⟨b, 1, none⟩) hbr).trans a1
                have r2 : ∀ y : In (Abv wr), y.u.cell? ⟨p15, 0, none⟩ = some (.int .i64 x9.1) := fun y => (y.is.cell (p := ⟨p15, 0, none⟩) hp15).trans F0
                have r3 : ∀ y : In (Abv wr), y.u.cell? ⟨p15, 1, none⟩ = some (.int .i64 x9.2) := fun y => (y.is.cell (p := ⟨p15, 1, none⟩) hp15).trans F1
                clear q1 q2 a0 a1 hlen2 F0 F1
                go_wp2_with fail
                refine wp_region_mix (by kernel_rfl) (Cls (Abv wr)) [(0, 0), (1, 0), (2, 0), (4, 0), (5, 0), (3, 1), (6, 0), (7, 0), (8, 0), (9, 0), (10, 0), (11, 0), (12, 0), (13, 0)] (by kernel_rfl) (cls (Below.refl _ wr).drew) ?_
                repeat (refine mix0 rfl (fun K hK => ?_); go_simp; refine hK _ ?_; clear hK K)
                refine mix1 rfl (fun K hK => ?_)
                go_simp
                refine (Mode_any wr.drew (.agg #[.slice A n c, .slice A2 n2 c2]) hj wj ⟨_, _, _, _, _, _, rfl, Qj.out.1.below (drew_same wr), Qj.out.2.below (drew_same wr)⟩ x9.1).mono ?_
                rw [HEnd.out.1]
                rintro e wa ⟨rfl, hb7⟩
                have Ba : Hid (Abv wr wa) := Lib.hid (bnext (drew_same wr) hb7)
                clear hb7
                refine ⟨_, rfl, hK _ _ (cls Ba.out) ?_⟩
                clear hK K
                repeat (refine mix0 rfl (fun K hK => ?_); go_simp; refine hK _ ?_; clear hK K)
                refine mixEnd ?_
                have BE := Lib.hid (bnext BI.out Ba.out)
                have XE := Lib.hid (Xj.out.below Ba.out)
                clear r0 r1 r2 r3
                go_wp2
                go_roundw
                case rel => exact ⟨q + 1, hj, wj, by go_num, hk9, OKj, XE, BE⟩
                case measure => simp [intOf]; omega
theorem own : ownKnob Try.prog.godebug = none := by kernel_rfl
theorem laidOut : laidOutB Try.prog = true := by kernel_rfl
set_option maxRecDepth 100000 in
theorem lifted (os : Os) (started : os.Started) (H : Type) (enc : TypeId × Value → H) :
    ReturnsInHanded {} Try.checked os 4 .any (Rows.queueEndsSpec.pre6 enc Try.prog Try.f4 Rows.queueEndsRow.domain false) (Rows.queueEndsSpec.post enc Try.prog Try.f4 false true false false) := by
  refine returnsInHanded_of_change (C := Try.checked) own started (by kernel_rfl) Try.func4
    (ChangeSpec.witness6 (enc := enc) (C := Try.checked) false ⟨#[], #[.slice none 0 0], []⟩ 8 (by kernel_rfl) (by kernel_rfl) (by kernel_rfl) (by kernel_rfl)) ?_
  intro W base args ds gs before hval0 hW hcnd _
  have hval : ∀ (j : Nat) t v, Try.f4.params[j]? = some t → args[j]? = some v → Value.okWide Try.prog W .any base t v := hval0
  have hW' := hW
  obtain ⟨p, q, hA0, hV, rfl, hfz, hnd⟩ := hW
  have hA : DataW.TrodAll enc Try.prog W 0 (fun _ => true) true Try.f4.params.toList args.toList ds p := hA0
  rw [Try.params4] at hA hval
  obtain ⟨v0, vs0, d0, ds0, p0, q0, hargs, rfl, rfl, h0, r0⟩ := trodAll_cons hA
  obtain ⟨rfl, rfl, rfl⟩ := trodAll_nil r0
  obtain rfl : args = #[v0] := by cases args; simp_all
  obtain ⟨x0, len0, cap0, a0, rfl, w0, y0⟩ := opens_ops (hval 0 22 v0 rfl rfl) h0
  clear hA0 hval0
  refine (walk x0 len0 cap0 a0 W w0 y0).mono fun e W' ⟨he, bel⟩ => ?_
  subst he
  exact ⟨_, rfl, law_post laidOut (by rw [Try.params4]; decide +kernel) rfl Try.underlying4 rfl hW' (fun _ => rfl) bel⟩
theorem over : Rows.queueEndsRow.holds Try.pinned (OpenSpec.ofChange Rows.queueEndsSpec) :=
  OpenClaim.holds_of_wide 4 Try.f4 rfl rfl rfl rfl rfl rfl rfl ⟨rfl, rfl, rfl, rfl, rfl⟩ rfl rfl rfl rfl rfl (by kernel_rfl) Try.func4 (by kernel_rfl)
    (of_decide_eq_true (by kernel_rfl)) (by unfold Func.isWrapper; first | (rw [if_pos (by decide +kernel)]; kernel_rfl) | (rw [if_neg (by decide +kernel)]; exact ⟨rfl, rfl⟩))
    (fun os started H enc _ => lifted os started H enc)
theorem proved : Rows.QueueEndsSaid := over
end Go.Proofs.Ytbeoigkjlgimdaa.queueEnds
