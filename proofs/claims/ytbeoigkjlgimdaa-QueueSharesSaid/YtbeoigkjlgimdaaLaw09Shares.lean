/- QueueShares: with nobody waiting, and nobody alone, who wants to share is served at once, whoever shares already; who then wants it alone waits for all others; for any nodes (eight of them are asked for, by their rests by eight), and one more. -/
import Derived.Test.YtbeoigkjlgimdaaRows
import Derived.Test.YtbeoigkjlgimdaaPl9
import Derived.Test.YtbeoigkjlgimdaaPs9
namespace Go.Proofs.Ytbeoigkjlgimdaa.queueShares
open Go.RowKit Go.ChangeShapes Go.WideShapes Go.ChangeAt
open Go.ChangeMaps (open_string shut_string)

theorem isc_set {w : World} {A : Option Addr} {n : Nat} {l : List Cl} (h : IsC w A n l) {p : Addr} {v0 : Value} (hc : w.cell? p = some v0) (hne : ∀ z, v0 ≠ .int .i64 z) (v : Value) : IsC (w.setCell p v) A n l := by
  refine ⟨h.length, h.max, h.wf, fun h0 => ?_⟩
  obtain ⟨g, off, e, hg, hcs⟩ := h.cells h0
  refine ⟨g, off, e, by simp [World.setCell]; exact hg, fun i c hi => ?_⟩
  obtain ⟨c0, c1⟩ := hcs i c hi
  refine ⟨?_, ?_⟩
  · rw [World.cell?_setCell_other _ _ _ _ (fun e2 => by rw [e2] at hc; rw [hc] at c0; exact hne _ (Option.some.inj c0))]
    exact c0
  · rw [World.cell?_setCell_other _ _ _ _ (fun e2 => by rw [e2] at hc; rw [hc] at c1; exact hne _ (Option.some.inj c1))]
    exact c1
theorem box_set {w : World} {b p o : Nat} {h ws : List Cl} (x : BoxQ w b h ws) {v0 : Value} (hc : w.cell? ⟨p, o, none⟩ = some v0) (hne : ∀ z, v0 ≠ .int .i64 z) (hb : b ≠ p) (v : Value) : BoxQ (w.setCell ⟨p, o, none⟩ v) b h ws := by
  obtain ⟨A, n, c, A2, n2, c2, h0, h1, i1, i2⟩ := x.is
  refine ⟨⟨A, n, c, A2, n2, c2, ?_, ?_, isc_set i1 hc hne v, isc_set i2 hc hne v⟩, by rw [World.frozen?_setCell]; exact x.f0, by rw [World.frozen?_setCell]; exact x.f1⟩
  · rw [World.cell?_setCell_other _ _ _ _ (fun e => hb (congrArg Addr.block e).symm)]; exact h0
  · rw [World.cell?_setCell_other _ _ _ _ (fun e => hb (congrArg Addr.block e).symm)]; exact h1
/-- Which nodes have it. -/
def hasB (h : List Cl) (y : Nat) : Bool := decide (modeM h (y : Int) = 1)
set_option maxHeartbeats 2000000 in
set_option maxRecDepth 100000 in
theorem walk (x : Option Addr) (len cap : Nat) (zs : List Int) (one : Int) (W : World) (ho : IsInts .i64 W x len zs) (_ : (Lit.int .i64 one).wf = true) :
    Calls Try.prog 5 #[.slice x len cap, .int .i64 one] W fun e W' => e = .returned (.bool true) ∧ Below W.heap.size W W' := by
  have hlen := ho.max
  have Hop := Lib.hid ho
  unfold maxLen at hlen
  clear ho
  go_enter Try.func5, Try.ntmps5
  go_wp2_with fail
  refine (awake_any W).mono ?_
  rintro e w0 ⟨rfl, hb⟩
  have B0 := Lib.hid hb
  clear hb
  go_wp2_with fail
  obtain ⟨b, Hb⟩ : ∃ x, Hid (w0.heap.size = x) := ⟨_, Lib.hid rfl⟩
  obtain ⟨bw, Hbw⟩ : ∃ x, Hid (w0.heap.size + 1 = x) := ⟨_, Lib.hid rfl⟩
  obtain ⟨w1, Hw1⟩ : ∃ x, Hid ((w0.alloc (.cells #[.slice none 0 0, .slice none 0 0] 26)).alloc (.cells #[.bool false, .bool false, .bool false, .bool false, .bool false, .bool false, .bool false, .bool false] 41) = x) := ⟨_, Lib.hid rfl⟩
  have X1 : Hid (BoxQ w1 b [] []) := Lib.hid (by rw [← Hw1.out, ← Hb.out]; exact (BoxQ.new w0).below (balloc (Below.refl _ _) _))
  have B1 : Hid (Below W.heap.size W w1) := Lib.hid (by rw [← Hw1.out]; exact balloc (balloc B0.out _) _)
  have HbW : Hid (W.heap.size ≤ b) := Lib.hid (by rw [← Hb.out]; exact B0.out.size)
  have HA1 : Hid (∀ y, y < 8 → w1.cell? ⟨bw, y, none⟩ = some (.bool (hasB [] y)) ∧ w1.frozen? ⟨bw, y, none⟩ = false) := Lib.hid (fun y hy => by
    rw [← Hw1.out, ← Hbw.out]
    match y, hy with
    | 0, _ => exact ⟨by simp [go_sem]; rfl, by simp [go_sem]⟩
    | 1, _ => exact ⟨by simp [go_sem]; rfl, by simp [go_sem]⟩
    | 2, _ => exact ⟨by simp [go_sem]; rfl, by simp [go_sem]⟩
    | 3, _ => exact ⟨by simp [go_sem]; rfl, by simp [go_sem]⟩
    | 4, _ => exact ⟨by simp [go_sem]; rfl, by simp [go_sem]⟩
    | 5, _ => exact ⟨by simp [go_sem]; rfl, by simp [go_sem]⟩
    | 6, _ => exact ⟨by simp [go_sem]; rfl, by simp [go_sem]⟩
    | 7, _ => exact ⟨by simp [go_sem]; rfl, by simp [go_sem]⟩)
  have hbw : b < bw := by have := Hb.out; have := Hbw.out; omega
  rw [Hw1.out, Hbw.out, Hb.out]
  go_loopw [8, 9, 10, 11, 12] (fun m i _ _ _ wr => ∃ (k : Nat) (h : List Cl), i = .int .i64 (k : Int) ∧ m = .int .i64 (h.length : Int) ∧ k ≤ 8 ∧ Hid (ShQ h) ∧ Hid (BoxQ wr b h []) ∧ Hid (Below W.heap.size W wr) ∧ Hid (∀ y, y < 8 → wr.cell? ⟨bw, y, none⟩ = some (.bool (hasB h y)) ∧ wr.frozen? ⟨bw, y, none⟩ = false)) (fun _ i _ _ _ _ => 8 - (intOf i).toNat)
  case atStart => exact ⟨0, [], rfl, rfl, by omega, Lib.hid ⟨ok_empty, by simp⟩, X1, B1, HA1⟩
  case round =>
    obtain ⟨k, h, rfl, rfl, hk, SH, X, HB, HA⟩ := hrel
    obtain ⟨A, n, c, A2, n2, c2, a0, a1, q1, q2⟩ := X.out.is
    have Q := Lib.hid (And.intro q1 q2)
    have OK8 := ok_eight SH.out.ok
    have hbl := X.out.lt
    have hbwl : bw < wr.heap.size := lt_of_cell (HA.out 0 (by omega)).1
    clear q1 q2
    by_cases hlt : k < len ∧ k < 8
    · have i1 : (k : Int) < (len : Int) := by omega
      have i2 : (k : Int) < 8 := by omega
      obtain ⟨bo, off, rfl, hat⟩ := Hop.out.cells (by omega)
      have hc0 := hat k hlt.1
      have hbo := lt_of_cell hc0
      have ck := (HB.out.cell (p := ⟨bo, off + k, none⟩) hbo).trans hc0
      obtain ⟨e9, He9⟩ : ∃ z, Hid (zs.getD k 0 = z) := ⟨_, Lib.hid rfl⟩
      rw [He9.out] at ck
      obtain ⟨nn, Hnn, hn7⟩ := and_small e9 7 (.inr rfl)
      have hand := Hnn.out
      rw [show ((7 : Nat) : Int) = 7 from rfl] at hand
      have hth : thereB (nn : Int) = true := by simp [thereB]; omega
      have hn8 : (nn : Int) < 8 := by omega
      have hn8' : nn < 8 := by omega
      have ST := Lib.hid (sh_step SH.out hth)
      obtain ⟨h2, Hh2⟩ : ∃ l, Hid (newH .want h [] (nn : Int) 1 = l) := ⟨_, Lib.hid rfl⟩
      clear hlt hat hc0
      go_wp2_with fail
      refine (Want_any wr (.agg #[.slice A n c, .slice A2 n2 c2]) h [] ⟨A, n, c, A2, n2, c2, rfl, Q.out.1, Q.out.2⟩ SH.out.ok (by omega) (by omega) (nn : Int) 1).mono ?_
      rw [ST.out.1, ST.out.2.1, Hh2.out]
      rintro e u ⟨v', T, rfl, hq, hs, hb⟩
      obtain ⟨Bx, mx, dx, By, my, dy, rfl, j1, j2⟩ := hq.is
      obtain ⟨At, nt, ct, rfl, t1⟩ := hs.is
      obtain ⟨g, o2, rfl, t2, t3, ht⟩ := t1.first
      have hgl := lt_of_cell t2
      have hq1 : nt = 1 := ht
      clear ht
      subst hq1
      have SH2 : Hid (ShQ h2 ∧ h2.length = h.length + (if modeM h (nn : Int) = 1 then 0 else 1) ∧ ∀ y, modeM h2 y = if y = (nn : Int) then 1 else modeM h y) := Lib.hid (by rw [← Hh2.out]; exact ⟨ST.out.2.2.1, ST.out.2.2.2.1, ST.out.2.2.2.2⟩)
      have HAu : Hid (∀ y, y < 8 → u.cell? ⟨bw, y, none⟩ = some (.bool (hasB h y)) ∧ u.frozen? ⟨bw, y, none⟩ = false) := Lib.hid (fun y hy => ⟨(hb.cell (p := ⟨bw, y, none⟩) hbwl).trans (HA.out y hy).1, (hb.frozen (p := ⟨bw, y, none⟩) hbwl).trans (HA.out y hy).2⟩)
      obtain ⟨d0, d1⟩ := HAu.out nn hn8'
      have Y := Lib.hid (X.out.below hb)
      have hbu := Y.out.lt
      have hbwu : bw < u.heap.size := Nat.lt_of_lt_of_le hbwl hb.size
      have z0 := (hb.cell (p := ⟨b, 0, none⟩) hbl).trans a0
      have z1 := (hb.cell (p := ⟨b, 1, none⟩) hbl).trans a1
      have f0 := Y.out.f0
      have f1 := Y.out.f1
      have YB : Hid (BoxQ (u.setCell ⟨bw, nn, none⟩ (.bool true)) b h []) := Lib.hid (box_set Y.out d0 (fun z e => by cases e) (by omega) _)
      have J : IsC (u.setCell ⟨bw, nn, none⟩ (.bool true)) Bx mx h2 ∧ IsC (u.setCell ⟨bw, nn, none⟩ (.bool true)) By my [] := ⟨isc_set j1 d0 (fun z e => by cases e) _, isc_set j2 d0 (fun z e => by cases e) _⟩
      have X2 : BoxQ (((u.setCell ⟨bw, nn, none⟩ (.bool true)).setCell ⟨b, 0, none⟩ (.slice Bx mx dx)).setCell ⟨b, 1, none⟩ (.slice By my dy)) b h2 [] := YB.out.set J.1 J.2
      have XE : Hid (BoxQ ((((u.setCell ⟨bw, nn, none⟩ (.bool true)).setCell ⟨b, 0, none⟩ (.slice Bx mx dx)).setCell ⟨b, 1, none⟩ (.slice By my dy)).alloc (.cells #[.slice Bx mx dx, .slice By my dy] 26)) b h2 []) := Lib.hid (X2.below (balloc (Below.refl _ _) _))
      have BE : Hid (Below W.heap.size W ((((u.setCell ⟨bw, nn, none⟩ (.bool true)).setCell ⟨b, 0, none⟩ (.slice Bx mx dx)).setCell ⟨b, 1, none⟩ (.slice By my dy)).alloc (.cells #[.slice Bx mx dx, .slice By my dy] 26))) := Lib.hid (balloc (setQ_below (bmod (bnext HB.out hb) ((Mod.refl (· = bw) u).set1 _) (by have := HbW.out; omega)) HbW.out _ _) _)
      have AE : Hid (∀ y, y < 8 → ((((u.setCell ⟨bw, nn, none⟩ (.bool true)).setCell ⟨b, 0, none⟩ (.slice Bx mx dx)).setCell ⟨b, 1, none⟩ (.slice By my dy)).alloc (.cells #[.slice Bx mx dx, .slice By my dy] 26)).cell? ⟨bw, y, none⟩ = some (.bool (hasB h2 y)) ∧ ((((u.setCell ⟨bw, nn, none⟩ (.bool true)).setCell ⟨b, 0, none⟩ (.slice Bx mx dx)).setCell ⟨b, 1, none⟩ (.slice By my dy)).alloc (.cells #[.slice Bx mx dx, .slice By my dy] 26)).frozen? ⟨bw, y, none⟩ = false) := Lib.hid (fun y hy => by
        have ha := HAu.out y hy
        have hsz : bw < (((u.setCell ⟨bw, nn, none⟩ (.bool true)).setCell ⟨b, 0, none⟩ (.slice Bx mx dx)).setCell ⟨b, 1, none⟩ (.slice By my dy)).heap.size := by simp [World.setCell]; exact hbwu
        have e2 : ((((u.setCell ⟨bw, nn, none⟩ (.bool true)).setCell ⟨b, 0, none⟩ (.slice Bx mx dx)).setCell ⟨b, 1, none⟩ (.slice By my dy)).alloc (.cells #[.slice Bx mx dx, .slice By my dy] 26)).cell? ⟨bw, y, none⟩ = (u.setCell ⟨bw, nn, none⟩ (.bool true)).cell? ⟨bw, y, none⟩ := ((balloc (Below.refl _ (((u.setCell ⟨bw, nn, none⟩ (.bool true)).setCell ⟨b, 0, none⟩ (.slice Bx mx dx)).setCell ⟨b, 1, none⟩ (.slice By my dy))) _).cell (p := ⟨bw, y, none⟩) hsz).trans ((setQ_mod (u.setCell ⟨bw, nn, none⟩ (.bool true)) b _ _).cell (p := ⟨bw, y, none⟩) (by simp [World.setCell]; exact hbwu) (show ¬ bw = b by omega))
        have e3 : ((((u.setCell ⟨bw, nn, none⟩ (.bool true)).setCell ⟨b, 0, none⟩ (.slice Bx mx dx)).setCell ⟨b, 1, none⟩ (.slice By my dy)).alloc (.cells #[.slice Bx mx dx, .slice By my dy] 26)).frozen? ⟨bw, y, none⟩ = u.frozen? ⟨bw, y, none⟩ := ((balloc (Below.refl _ (((u.setCell ⟨bw, nn, none⟩ (.bool true)).setCell ⟨b, 0, none⟩ (.slice Bx mx dx)).setCell ⟨b, 1, none⟩ (.slice By my dy))) _).frozen (p := ⟨bw, y, none⟩) hsz).trans (by rw [World.frozen?_setCell, World.frozen?_setCell, World.frozen?_setCell])
        refine ⟨?_, e3.trans ha.2⟩
        rw [e2]
        by_cases hy2 : y = nn
        · subst hy2
          have : hasB h2 y = true := by simp [hasB, SH2.out.2.2]
          rw [this]
          exact set_same d0
        · have : hasB h2 y = hasB h y := by
            unfold hasB
            rw [SH2.out.2.2, if_neg (by omega)]
          rw [this]
          exact set_other (by simp <;> omega) ha.1)
      have SHE := Lib.hid SH2.out.1
      obtain ⟨B, hBq⟩ : ∃ B, hasB h nn = B := ⟨_, rfl⟩
      have HBq := Lib.hid hBq
      rw [hBq] at d0
      clear hBq hq hs hb t1 j1 j2 J X2
      cases B with
      | true =>
        have Hln : Hid (h2.length = h.length) := Lib.hid (by rw [SH2.out.2.1, if_pos (by simpa [hasB] using HBq.out)]; rfl)
        go_wp2
        go_roundw
        case rel => exact ⟨k + 1, h2, by go_num, by rw [Hln.out], by omega, SHE, XE, BE, AE⟩
        case measure => simp [intOf]; omega
      | false =>
        have Hln : Hid (h2.length = h.length + 1) := Lib.hid (by rw [SH2.out.2.1, if_neg (by simpa [hasB] using HBq.out)])
        go_wp2
        go_roundw
        case rel => exact ⟨k + 1, h2, by go_num, by rw [Hln.out]; go_num, by omega, SHE, XE, BE, AE⟩
        case measure => simp [intOf]; omega
    · have hdone : (¬ (k : Int) < (len : Int)) ∨ ((k : Int) < (len : Int) ∧ ¬ (k : Int) < 8) := by omega
      rcases hdone with i1 | ⟨i1, i2⟩
      all_goals
        clear hlt
        obtain ⟨nn, Hnn, hn7⟩ := and_small one 7 (.inr rfl)
        have hand := Hnn.out
        rw [show ((7 : Nat) : Int) = 7 from rfl] at hand
        have hth : thereB (nn : Int) = true := by simp [thereB]; omega
        have hn8 : (nn : Int) < 8 := by omega
        have hn8' : nn < 8 := by omega
        have SA := Lib.hid (sh_alone SH.out hth)
        have SO := Lib.hid (sh_others SH.out (nn : Int))
        obtain ⟨D, HD⟩ : ∃ D, Hid ((delM h (nn : Int)).length = D) := ⟨_, Lib.hid rfl⟩
        rw [HD.out] at SA SO
        obtain ⟨hl, Hhl⟩ : ∃ D, Hid (h.length = D) := ⟨_, Lib.hid rfl⟩
        rw [Hhl.out] at SO OK8
        rw [Hhl.out]
        obtain ⟨h2, Hh2⟩ : ∃ l, Hid (newH .want h [] (nn : Int) 2 = l) := ⟨_, Lib.hid rfl⟩
        obtain ⟨w2, Hw2⟩ : ∃ l, Hid (newW .want h [] (nn : Int) 2 = l) := ⟨_, Lib.hid rfl⟩
        obtain ⟨T2, HT2⟩ : ∃ l, Hid (newT .want h [] (nn : Int) 2 = l) := ⟨_, Lib.hid rfl⟩
        rw [Hh2.out, Hw2.out, HT2.out] at SA
        have OK2 := Lib.hid (new_ok .want SH.out.ok (nn : Int) 2)
        rw [Hh2.out, Hw2.out] at OK2
        have OK28 := ok_eight OK2.out
        go_wp2_with fail
        refine (Want_any wr (.agg #[.slice A n c, .slice A2 n2 c2]) h [] ⟨A, n, c, A2, n2, c2, rfl, Q.out.1, Q.out.2⟩ SH.out.ok (by have := ok_eight SH.out.ok; omega) (by omega) (nn : Int) 2).mono ?_
        rw [Hh2.out, Hw2.out, HT2.out]
        rintro e u ⟨v', T, rfl, hq, hs, hb⟩
        obtain ⟨Bx, mx, dx, By, my, dy, rfl, j1, j2⟩ := hq.is
        obtain ⟨At, nt, ct, rfl, t1⟩ := hs.is
        obtain ⟨U, HU⟩ : ∃ x, Hid (u.alloc (.cells #[.slice Bx mx dx, .slice By my dy] 26) = x) := ⟨_, Lib.hid rfl⟩
        obtain ⟨p2, Hp2⟩ : ∃ x, Hid (u.heap.size = x) := ⟨_, Lib.hid rfl⟩
        have hal : Below u.heap.size u U := by rw [← HU.out]; exact balloc (Below.refl _ _) _
        have BU : Hid (Below W.heap.size W U) := Lib.hid (bnext HB.out (bnext hb hal))
        have J := Lib.hid (And.intro (j1.below hal) (j2.below hal))
        have HTl : Hid (T2.length = nt) := Lib.hid t1.length
        have HJl : Hid (h2.length = mx) := Lib.hid j1.length
        have Y0 : Hid (U.cell? ⟨p2, 0, none⟩ = some (.slice Bx mx dx)) := Lib.hid (by rw [← HU.out, ← Hp2.out]; simp [go_sem])
        have Y1 : Hid (U.cell? ⟨p2, 1, none⟩ = some (.slice By my dy)) := Lib.hid (by rw [← HU.out, ← Hp2.out]; simp [go_sem])
        have hpl := lt_of_cell Y0.out
        have d0 := (hb.cell (p := ⟨bw, nn, none⟩) hbwl).trans (HA.out nn hn8').1
        have hbwu : bw < u.heap.size := Nat.lt_of_lt_of_le hbwl hb.size
        obtain ⟨B, hBq⟩ : ∃ B, hasB h nn = B := ⟨_, rfl⟩
        have HBq := Lib.hid hBq
        rw [hBq] at d0
        clear hBq hq hs hb t1 j1 j2 hal
        cases B
        all_goals
          have HSO := SO.out
          have hB' := HBq.out
          simp only [hasB, decide_eq_true_eq, decide_eq_false_iff_not] at hB'
          simp only [hB', if_true, if_false] at HSO
          have hw1 : IntKind.i64.wrap ((hl : Int) - 1) = (hl : Int) - 1 := by rw [IntKind.wrap_i64]; omega
          have hDz : hl = D ∨ hl = D + 1 := by omega
          clear hB'
          go_wp2_with fail
          rw [HU.out, Hp2.out]
          refine (Calls_any U (.agg #[.slice Bx mx dx, .slice By my dy]) h2 w2 ⟨_, _, _, _, _, _, rfl, J.out.1, J.out.2⟩ (by omega)).mono ?_
          rintro e u2 ⟨TC, rfl, hs2, hb2⟩
          obtain ⟨Ac, nc, cc, rfl, tc⟩ := hs2.is
          have Hcl : Hid ((callsM h2 w2).length = nc) := Lib.hid tc.length
          have B2 := Lib.hid hb2
          have y0 := (hb2.cell (p := ⟨p2, 0, none⟩) hpl).trans Y0.out
          have y1 := (hb2.cell (p := ⟨p2, 1, none⟩) hpl).trans Y1.out
          clear hs2 tc hb2
          by_cases hD0 : D = 0
          · have S1 := SA.out.1 hD0
            obtain rfl : nt = 1 := by rw [← HTl.out, S1.1]; rfl
            obtain rfl : nc = 0 := by rw [← Hcl.out, S1.2.2]; rfl
            have Hm := Lib.hid S1.2.1
            have hlz : hl = 0 ∨ hl = 1 := by omega
            rcases hlz with rfl | rfl
            all_goals first
              | omega
              | (go_wp2_with fail
                 refine (Mode_any u2 (.agg #[.slice Bx mx dx, .slice By my dy]) h2 w2 ⟨_, _, _, _, _, _, rfl, J.out.1.below B2.out, J.out.2.below B2.out⟩ (nn : Int)).mono ?_
                 rw [Hm.out]
                 rintro e u3 ⟨rfl, hb3⟩
                 have BE := Lib.hid (bnext BU.out (bnext B2.out hb3))
                 clear hb3 y0 y1
                 go_wp2
                 go_ret
                 exact ⟨rfl, BE.out⟩)
          · have S1 := SA.out.2 hD0
            obtain rfl : nt = 0 := by rw [← HTl.out, S1.1]; rfl
            have Hw3 : Hid (modeM w2 (nn : Int) = 2) := Lib.hid (by rw [S1.2.2.1, mode_cons, if_pos rfl])
            obtain rfl : nc = D := by rw [← Hcl.out, S1.2.1, S1.2.2.1]; exact S1.2.2.2
            obtain rfl : mx = hl := by rw [← HJl.out, S1.2.1, Hhl.out]
            have hnz1 : ¬ ((mx : Int) = 0) := by omega
            have hnz2 : nc ≠ 0 := hD0
            have hq0 : ((mx : Int) == 0) = false := by simpa using hnz1
            have hq1 : mx = nc + 1 → ((mx : Int) - 1 == 0) = false := fun e => by
              have : ¬ ((mx : Int) - 1 = 0) := by omega
              simpa using this
            rcases hDz with hDe | hDe
            · first
              | omega
              | (subst hDe
                 go_wp2_with fail
                 refine (Waiting_any u2 (.agg #[.slice Bx _ dx, .slice By my dy]) h2 w2 ⟨_, _, _, _, _, _, rfl, J.out.1.below B2.out, J.out.2.below B2.out⟩ (nn : Int)).mono ?_
                 rw [Hw3.out]
                 rintro e u3 ⟨rfl, hb3⟩
                 have BE := Lib.hid (bnext BU.out (bnext B2.out hb3))
                 have y0 := (hb3.cell (p := ⟨p2, 0, none⟩) (lt_of_cell y0)).trans y0
                 have y1 := (hb3.cell (p := ⟨p2, 1, none⟩) (lt_of_cell y1)).trans y1
                 clear hb3
                 go_wp2
                 go_ret
                 exact ⟨rfl, BE.out⟩)
            · first
              | omega
              | (subst hDe
                 have hq2 : ((nc : Int) + 1 - 1 == 0) = false := by
                   have : ¬ ((nc : Int) + 1 - 1 = 0) := by omega
                   simpa using this
                 go_wp2_with fail
                 refine (Waiting_any u2 (.agg #[.slice Bx _ dx, .slice By my dy]) h2 w2 ⟨_, _, _, _, _, _, rfl, J.out.1.below B2.out, J.out.2.below B2.out⟩ (nn : Int)).mono ?_
                 rw [Hw3.out]
                 rintro e u3 ⟨rfl, hb3⟩
                 have BE := Lib.hid (bnext BU.out (bnext B2.out hb3))
                 have y0 := (hb3.cell (p := ⟨p2, 0, none⟩) (lt_of_cell y0)).trans y0
                 have y1 := (hb3.cell (p := ⟨p2, 1, none⟩) (lt_of_cell y1)).trans y1
                 clear hb3
                 go_wp2
                 go_ret
                 exact ⟨rfl, BE.out⟩)
theorem own : ownKnob Try.prog.godebug = none := by kernel_rfl
theorem laidOut : laidOutB Try.prog = true := by kernel_rfl
set_option maxRecDepth 100000 in
theorem lifted (os : Os) (started : os.Started) (H : Type) (enc : TypeId × Value → H) :
    ReturnsInHanded {} Try.checked os 5 .any (Rows.queueSharesSpec.pre6 enc Try.prog Try.f5 Rows.queueSharesRow.domain false) (Rows.queueSharesSpec.post enc Try.prog Try.f5 false true false false) := by
  refine returnsInHanded_of_change (C := Try.checked) own started (by kernel_rfl) Try.func5
    (ChangeSpec.witness6 (enc := enc) (C := Try.checked) false ⟨#[], #[.slice none 0 0, .int .i64 0], []⟩ 8 (by kernel_rfl) (by kernel_rfl) (by kernel_rfl) (by kernel_rfl)) ?_
  intro W base args ds gs before hval0 hW hcnd _
  have hval : ∀ (j : Nat) t v, Try.f5.params[j]? = some t → args[j]? = some v → Value.okWide Try.prog W .any base t v := hval0
  have hW' := hW
  obtain ⟨p, q, hA0, hV, rfl, hfz, hnd⟩ := hW
  have hA : DataW.TrodAll enc Try.prog W 0 (fun _ => true) true Try.f5.params.toList args.toList ds p := hA0
  rw [Try.params5] at hA hval
  obtain ⟨v0, vs0, d0, ds0, p0, q0, hargs, rfl, rfl, h0, r0⟩ := trodAll_cons hA
  obtain ⟨v1, vs1, d1, ds1, p1, q1, rfl, rfl, rfl, h1, r1⟩ := trodAll_cons r0
  obtain ⟨rfl, rfl, rfl⟩ := trodAll_nil r1
  obtain rfl : args = #[v0, v1] := by cases args; simp_all
  obtain ⟨x0, len0, cap0, a0, rfl, w0⟩ := opens_ints Try.underlying40 Try.underlying3 (by kernel_rfl) (hval 0 40 v0 rfl rfl) h0
  obtain ⟨a1, rfl, rfl, rfl, w1⟩ := open_int Try.underlying3 (hval 1 3 v1 rfl rfl) h1
  clear hA0 hval0
  refine (walk x0 len0 cap0 a0 a1 W w0 w1).mono fun e W' ⟨he, bel⟩ => ?_
  subst he
  exact ⟨_, rfl, law_post laidOut (by rw [Try.params5]; decide +kernel) rfl Try.underlying4 rfl hW' (fun _ => rfl) bel⟩
theorem over : Rows.queueSharesRow.holds Try.pinned (OpenSpec.ofChange Rows.queueSharesSpec) :=
  OpenClaim.holds_of_wide 5 Try.f5 rfl rfl rfl rfl rfl rfl rfl ⟨rfl, rfl, rfl, rfl, rfl⟩ rfl rfl rfl rfl rfl (by kernel_rfl) Try.func5 (by kernel_rfl)
    (of_decide_eq_true (by kernel_rfl)) (by unfold Func.isWrapper; first | (rw [if_pos (by decide +kernel)]; kernel_rfl) | (rw [if_neg (by decide +kernel)]; exact ⟨rfl, rfl⟩))
    (fun os started H enc _ => lifted os started H enc)
theorem proved : Rows.QueueSharesSaid := over
end Go.Proofs.Ytbeoigkjlgimdaa.queueShares
