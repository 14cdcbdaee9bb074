/- The document's put: a list with one more. -/
import Derived.Test.YtfdbkmncgngkjaaRh06
import Derived.Deep.DeepCutAuto
namespace Go.Proofs.Ytfdbkmncgngkjaa
open Go.RowKit

theorem wpList_appR {w : World} {ops : Array Oper} {rest : List Oper} {o : Oper} {a : Act} {Q : Exit → Act → World → Prop} (hgd : o.guard = none) (s x : Operand) (t : TypeId)
    (ho : o.op = .call { callee := .builtin .append, args := #[s, x], argTypes := #[t, t] }) {v' : Value} {w' : World} (hr : (Builtin.append_ #[t, t] o.type #[a.eval s, a.eval x]).run Try.prog w = .ok v' w')
    (hK : wpList Try.prog ops Q rest (a.put o.dst v') w') : wpList Try.prog ops Q (o :: rest) a w := by
  refine wpList_plain hgd fun K' hK' => ?_
  unfold Oper.wp
  rw [exec_append ho hr]
  exact hK' _ _ hK
def pLt (m x : Mb) : Bool := decide (x.1 < m.1) || (x.1 == m.1 && decide (x.2.1 < m.2.1))
def atR (l : List Mb) (m : Mb) : Nat := l.findIdx (fun x => !pLt m x)
def putR (l : List Mb) (m : Mb) : List Mb := l.take (atR l m) ++ [m] ++ l.drop (atR l m)
def goOn (l : List Mb) (m : Mb) (k : Nat) : Bool := match l[k]? with | some x => pLt m x | none => false
set_option maxHeartbeats 8000000 in
theorem put_r_any (w : World) (A : Option Addr) (n c : Nat) (l : List Mb) (h : IsL w A n c l) (hs : l.length ≤ 1000) (m : Mb) :
    Calls Try.prog 69 #[.slice A n c, .agg #[.int .i64 m.1, .int .i64 m.2.1, .bool m.2.2]] w fun e w' => ∃ A' n' c', e = .returned (.slice A' n' c') ∧ OwnL w' w.heap.size A' n' c' (putR l m) ∧ Below w.heap.size w w' := by
  have Hh := Lib.hid h
  have hn : n ≤ 1000 := by rw [← h.length]; exact hs
  have hlen := Lib.hid h.length
  obtain ⟨i0, hi, hz0, hz1, hz2⟩ := info_parts infoM
  have Hi := Lib.hid hi
  have Hz0 := Lib.hid hz0
  have Hz1 := Lib.hid hz1
  have Hz2 := Lib.hid hz2
  clear h hi hz0 hz1 hz2
  go_enter Try.func69, Try.ntmps69
  go_upto_region 1 with (fail)
  obtain ⟨w1, Hw1⟩ : ∃ w1, Hid (w.alloc (.cells #[.int .i64 m.1, .int .i64 m.2.1, .bool m.2.2] 53) = w1) := ⟨_, Lib.hid rfl⟩
  obtain ⟨b, Hb⟩ : ∃ b, Hid (w.heap.size = b) := ⟨_, Lib.hid rfl⟩
  have HM : Hid (BoxM w1 b m) := Lib.hid (by rw [← Hw1.out, ← Hb.out]; exact BoxM.new w m)
  have HB1 : Hid (Below w.heap.size w w1) := Lib.hid (by rw [← Hw1.out]; exact balloc (Below.refl _ _) _)
  rw [Hw1.out, Hb.out]
  go_wp2
  go_loopw [5, 6] (fun v i wr => ∃ (k : Nat) (B : Option Addr) (bc : Nat), i = .int .i64 (k : Int) ∧ k ≤ n ∧ v = .slice B k bc ∧ Hid (k ≤ atR l m) ∧ Hid (OwnL wr w1.heap.size B k bc (l.take k)) ∧ Hid (Below w1.heap.size w1 wr)) (fun _ i _ => n - (intOf i).toNat)
  case atStart => exact ⟨0, none, 0, rfl, Nat.zero_le _, rfl, Lib.hid (Nat.zero_le _), Lib.hid (OwnL.nil _ _), Lib.hid (Below.refl _ _)⟩
  case round =>
    obtain ⟨k, B, bc, rfl, hk, rfl, HF, HO, HB⟩ := hrel
    obtain ⟨q, Hq⟩ : ∃ q, Hid (goOn l m k = q) := ⟨_, Lib.hid rfl⟩
    go_upto_region 3 with (fail)
    go_cut [40] (fun s wx => s = .bool q ∧ wx = wr.drew)
    case first =>
      have m0 : ∀ y : In (Abv w1), y.u.cell? ⟨b, 0, none⟩ = some (.int .i64 m.1) := fun y => (HM.out.below y.is).cells.1
      have m1 : ∀ y : In (Abv w1), y.u.cell? ⟨b, 1, none⟩ = some (.int .i64 m.2.1) := fun y => (HM.out.below y.is).cells.2.1
      by_cases hlt : k < n
      · have hd : decide ((k : Int) < (n : Int)) = true := by simpa using hlt
        obtain ⟨g, off, eA, hg, hcs⟩ := (Hh.out.below HB1.out).cells (by omega)
        obtain ⟨x, hx⟩ : ∃ x, l[k]? = some x := ⟨_, List.getElem?_eq_getElem (by rw [hlen.out]; exact hlt)⟩
        have hc := hcs k x hx
        have k0 : ∀ y : In (Abv w1), y.u.cell? ⟨g, off + k * 3, none⟩ = some (.int .i64 x.1) := fun y => (y.is.cell (p := ⟨g, off + k * 3, none⟩) hg).trans hc.1
        have k1 : ∀ y : In (Abv w1), y.u.cell? ⟨g, off + k * 3 + 1, none⟩ = some (.int .i64 x.2.1) := fun y => (y.is.cell (p := ⟨g, off + k * 3 + 1, none⟩) hg).trans hc.2.1
        have hix : ∀ w : World, (Instr.indexAt 22 (.slice A n c) (.int .i64 (k : Int))).run Try.prog w = .ok (.pointer (some ⟨g, off + k * 3, none⟩)) w := fun w => idxM (n := n) (c := c) eA hlt w
        have hqx : pLt m x = q := by have := Hq.out; unfold goOn at this; rwa [hx] at this
        clear hcs hx eA hc
        cases q1 : decide (x.1 < m.1) with
        | true =>
          have Hqq : Hid (q = true) := Lib.hid (by rw [← hqx]; unfold pLt; rw [q1]; rfl)
          clear hqx
          refine wp_region_mix (by kernel_rfl) (Cls (Abv w1)) [(0, 0), (1, 0), (2, 0), (3, 0), (4, 0), (5, 0), (6, 0), (7, 0), (8, 0), (9, 0), (10, 0), (11, 0), (12, 0), (13, 0), (14, 0), (15, 0), (16, 0), (17, 0), (18, 0), (19, 0), (20, 0), (21, 0), (22, 0), (23, 0), (24, 0), (25, 0), (26, 0), (27, 0), (28, 0), (29, 0), (30, 0), (31, 0), (32, 0), (33, 0)] (by kernel_rfl) (cls HB.out.drew) ?_
          repeat (refine mix0 rfl (fun K hK => ?_); go_simp; refine hK _ ?_; clear hK K)
          refine mixEnd ?_
          go_wp2
          go_meet
          case rel => exact ⟨by rw [Hqq.out], rfl⟩
        | false =>
          cases q2 : (x.1 == m.1) with
          | true =>
            cases q3 : decide (x.2.1 < m.2.1) with
            | true =>
              have Hqq : Hid (q = true) := Lib.hid (by rw [← hqx]; unfold pLt; rw [q1, q2, q3]; rfl)
              clear hqx
              refine wp_region_mix (by kernel_rfl) (Cls (Abv w1)) [(0, 0), (1, 0), (2, 0), (3, 0), (4, 0), (5, 0), (6, 0), (7, 0), (8, 0), (9, 0), (10, 0), (11, 0), (12, 0), (13, 0), (14, 0), (15, 0), (16, 0), (17, 0), (18, 0), (19, 0), (20, 0), (21, 0), (22, 0), (23, 0), (24, 0), (25, 0), (26, 0), (27, 0), (28, 0), (29, 0), (30, 0), (31, 0), (32, 0), (33, 0)] (by kernel_rfl) (cls HB.out.drew) ?_
              repeat (refine mix0 rfl (fun K hK => ?_); go_simp; refine hK _ ?_; clear hK K)
              refine mixEnd ?_
              go_wp2
              go_meet
              case rel => exact ⟨by rw [Hqq.out], rfl⟩
            | false =>
              have Hqq : Hid (q = false) := Lib.hid (by rw [← hqx]; unfold pLt; rw [q1, q2, q3]; rfl)
              clear hqx
              refine wp_region_mix (by kernel_rfl) (Cls (Abv w1)) [(0, 0), (1, 0), (2, 0), (3, 0), (4, 0), (5, 0), (6, 0), (7, 0), (8, 0), (9, 0), (10, 0), (11, 0), (12, 0), (13, 0), (14, 0), (15, 0), (16, 0), (17, 0), (18, 0), (19, 0), (20, 0), (21, 0), (22, 0), (23, 0), (24, 0), (25, 0), (26, 0), (27, 0), (28, 0), (29, 0), (30, 0), (31, 0), (32, 0), (33, 0)] (by kernel_rfl) (cls HB.out.drew) ?_
              repeat (refine mix0 rfl (fun K hK => ?_); go_simp; refine hK _ ?_; clear hK K)
              refine mixEnd ?_
              go_wp2
              go_meet
              case rel => exact ⟨by rw [Hqq.out], rfl⟩
          | false =>
            have Hqq : Hid (q = false) := Lib.hid (by rw [← hqx]; unfold pLt; rw [q1, q2]; rfl)
            clear hqx
            refine wp_region_mix (by kernel_rfl) (Cls (Abv w1)) [(0, 0), (1, 0), (2, 0), (3, 0), (4, 0), (5, 0), (6, 0), (7, 0), (8, 0), (9, 0), (10, 0), (11, 0), (12, 0), (13, 0), (14, 0), (15, 0), (16, 0), (17, 0), (18, 0), (19, 0), (20, 0), (21, 0), (22, 0), (23, 0), (24, 0), (25, 0), (26, 0), (27, 0), (28, 0), (29, 0), (30, 0), (31, 0), (32, 0), (33, 0)] (by kernel_rfl) (cls HB.out.drew) ?_
            repeat (refine mix0 rfl (fun K hK => ?_); go_simp; refine hK _ ?_; clear hK K)
            refine mixEnd ?_
            go_wp2
            go_meet
            case rel => exact ⟨by rw [Hqq.out], rfl⟩
      · have hd : decide ((k : Int) < (n : Int)) = false := by simpa using hlt
        have Hqq : Hid (q = false) := Lib.hid (by have := Hq.out; unfold goOn at this; rw [List.getElem?_eq_none (by rw [hlen.out]; omega)] at this; exact this.symm)
        refine wp_region_mix (by kernel_rfl) (Cls (Abv w1)) [(0, 0), (1, 0), (2, 0), (3, 0), (4, 0), (5, 0), (6, 0), (7, 0), (8, 0), (9, 0), (10, 0), (11, 0), (12, 0), (13, 0), (14, 0), (15, 0), (16, 0), (17, 0), (18, 0), (19, 0), (20, 0), (21, 0), (22, 0), (23, 0), (24, 0), (25, 0), (26, 0), (27, 0), (28, 0), (29, 0), (30, 0), (31, 0), (32, 0), (33, 0)] (by kernel_rfl) (cls HB.out.drew) ?_
        repeat (refine mix0 rfl (fun K hK => ?_); go_simp; refine hK _ ?_; clear hK K)
        refine mixEnd ?_
        go_wp2
        go_meet
        case rel => exact ⟨by rw [Hqq.out], rfl⟩
    case rest =>
    obtain ⟨rfl, hwc⟩ := hcut
    obtain ⟨w4, Hw4⟩ : ∃ w4, Hid (wr.drew = w4) := ⟨_, Lib.hid rfl⟩
    have HB4 : Hid (Below w1.heap.size w1 w4) := Lib.hid (by rw [← Hw4.out]; exact HB.out.drew)
    have HO4 : Hid (OwnL w4 w1.heap.size B k bc (l.take k)) := Lib.hid ⟨by rw [← Hw4.out]; exact HO.out.row.later ((Mod.refl (fun _ => False) wr).drew) (fun _ _ => id), HO.out.new⟩
    rw [Hw4.out] at hwc
    have hwc' := hwc.symm
    clear hwc
    subst hwc'
    clear HO HB Hw4
    cases q with
    | true =>
      have hlt : k < n := by
        rcases Nat.lt_or_ge k n with h | h
        · exact h
        · have := Hq.out
          unfold goOn at this
          rw [List.getElem?_eq_none (by rw [hlen.out]; omega)] at this
          cases this
      obtain ⟨x, hx⟩ : ∃ x, l[k]? = some x := ⟨_, List.getElem?_eq_getElem (by rw [hlen.out]; exact hlt)⟩
      have hpx : pLt m x = true := by have := Hq.out; unfold goOn at this; rwa [hx] at this
      have HF2 : Hid (k + 1 ≤ atR l m) := Lib.hid (fi_step HF.out hx (by rw [hpx]; rfl))
      have Htk : Hid (l.take (k + 1) = l.take k ++ [x]) := Lib.hid (by rw [List.take_add_one, hx]; rfl)
      obtain ⟨g, off, eA, hg, hcs⟩ := (Hh.out.below (bnext HB1.out HB4.out)).cells (by omega)
      obtain ⟨c0, c1, c2⟩ := hcs k x hx
      have hix : ∀ w : World, (Instr.indexAt 22 (.slice A n c) (.int .i64 (k : Int))).run Try.prog w = .ok (.pointer (some ⟨g, off + k * 3, none⟩)) w := fun w => idxM (n := n) (c := c) eA hlt w
      have hrow : RowM (w4.alloc (.cells #[.int .i64 x.1, .int .i64 x.2.1, .bool x.2.2] 53)) B k bc (l.take k) := HO4.out.row.later (S := fun _ => False) (Mod.of_below ((Below.refl _ _).alloc (Nat.le_refl _) _)) (fun _ _ h => h)
      have Hrow := Lib.hid hrow
      have Hat := Lib.hid (mb1_at w4 x)
      clear hrow hcs hx hpx eA
      go_wp2_with (at_builtin; refine wpList_append_row _ rfl (.tmp 41) (.tmp 46) 22 rfl Hrow.out 53 i0 (.agg #[.int .i64 0, .int .i64 0, .bool false]) 24 Try.underlying22 Hi.out Hz0.out Hz1.out Hz2.out rfl (by decide) rfl ⟨w4.heap.size, 0, none⟩ 1 1 (mb1 x) rfl rfl Hat.out (mb1_one x) (by decide) ?c3 ?c4 ?_)
      case c3 => unfold maxLen; omega
      case c4 => omega
      intro q cap' w2 hr hm2 hb2
      have b1 : Below w1.heap.size w1 (w4.alloc (.cells #[.int .i64 x.1, .int .i64 x.2.1, .bool x.2.2] 53)) := balloc HB4.out _
      have HO2 : Hid (OwnL w2 w1.heap.size (some q) (k + 1) cap' (l.take (k + 1))) := Lib.hid (by
        rw [Htk.out]
        exact OwnL.more (w := w4) HO4.out HB4.out.size x hr (hb2.imp id (fun ⟨g, h1, h2⟩ => ⟨g, h1, by omega⟩)))
      have HB2 : Hid (Below w1.heap.size w1 w2) := Lib.hid (hm2.below b1 b1.size (fun i hi => HO4.out.new i hi))
      clear hr hm2 hb2 b1
      go_wp2
      go_roundw
      case rel => exact ⟨k + 1, some q, cap', by go_num, by omega, rfl, HF2, HO2, HB2⟩
      case measure => simp [intOf]; omega
    | false =>
      have hkn : k ≤ l.length := by rw [hlen.out]; omega
      have Hat : Hid (atR l m = k) := Lib.hid (by
        rcases Nat.lt_or_ge k n with h | h
        · obtain ⟨x, hx⟩ : ∃ x, l[k]? = some x := ⟨_, List.getElem?_eq_getElem (by rw [hlen.out]; exact h)⟩
          have hpx : pLt m x = false := by have := Hq.out; unfold goOn at this; rwa [hx] at this
          exact fi_stop HF.out hx (by rw [hpx]; rfl)
        · have := HF.out
          have h2 : atR l m ≤ l.length := List.findIdx_le_length
          have := hlen.out
          omega)
      clear hkn
      obtain ⟨m0, m1, m2⟩ := (HM.out.below HB4.out).cells
      have hrow : RowM (w4.alloc (.cells #[.int .i64 m.1, .int .i64 m.2.1, .bool m.2.2] 53)) B k bc (l.take k) := HO4.out.row.later (S := fun _ => False) (Mod.of_below ((Below.refl _ _).alloc (Nat.le_refl _) _)) (fun _ _ h => h)
      have Hrow := Lib.hid hrow
      have Hat1 := Lib.hid (mb1_at w4 m)
      clear hrow
      go_wp2_with (at_builtin; refine wpList_append_row _ rfl (.tmp 50) (.tmp 52) 22 rfl Hrow.out 53 i0 (.agg #[.int .i64 0, .int .i64 0, .bool false]) 24 Try.underlying22 Hi.out Hz0.out Hz1.out Hz2.out rfl (by decide) rfl ⟨w4.heap.size, 0, none⟩ 1 1 (mb1 m) rfl rfl Hat1.out (mb1_one m) (by decide) ?c3 ?c4 ?_)
      case c3 => unfold maxLen; omega
      case c4 => omega
      intro q cap' w5 hr hm2 hb2
      have b1 : Below w1.heap.size w1 (w4.alloc (.cells #[.int .i64 m.1, .int .i64 m.2.1, .bool m.2.2] 53)) := balloc HB4.out _
      have HO5 : Hid (OwnL w5 w1.heap.size (some q) (k + 1) cap' (l.take k ++ [m])) := Lib.hid (OwnL.more (w := w4) HO4.out HB4.out.size m hr (hb2.imp id (fun ⟨g, h1, h2⟩ => ⟨g, h1, by omega⟩)))
      have HB5 : Hid (Below w1.heap.size w1 w5) := Lib.hid (hm2.below b1 b1.size (fun i hi => HO4.out.new i hi))
      have hL5 := Hh.out.below (bnext HB1.out HB5.out)
      clear hr hm2 hb2 b1 m0 m1 m2
      cases A with
      | none =>
        obtain rfl : c = 0 := Hh.out.nil rfl
        have hn0 := Hh.out.le
        obtain rfl : n = 0 := by omega
        obtain rfl : k = 0 := by omega
        have Hdrop : Hid (l.drop 0 = []) := Lib.hid (List.drop_eq_nil_of_le (by rw [hlen.out]; omega))
        have hr7 : IsL w5 none 0 0 (([] : List Mb)) := isL_none (by simp) (fun _ => rfl)
        obtain ⟨v', w6, er, hrow6, hm6, hb6⟩ := appL HO5.out.row hr7 (by omega)
        obtain ⟨A6, c6, rfl⟩ := row_shape hrow6
        have HB6 : Hid (Below w.heap.size w w6) := Lib.hid (hm6.below (bnext HB1.out HB5.out) (bnext HB1.out HB5.out).size (fun i hi => by have := HO5.out.new i hi; have := HB1.out.size; omega))
        have HO6 : Hid (OwnL w6 w.heap.size A6 (0 + 1 + 0) c6 (putR l m)) := Lib.hid (by
          refine ⟨?_, fun g hg => ?_⟩
          · have e : mcs (l.take 0 ++ [m]) ++ mcs (([] : List Mb)) = mcs (putR l m) := by
              rw [← mcs_append]
              unfold putR
              rw [Hat.out, Hdrop.out]
            show Row w6 3 _ _ (mcs (putR l m))
            rw [← e]
            exact hrow6
          · have h1 := HB1.out.size
            have h2 := HB5.out.size
            rcases hb6 with h | ⟨g', h, h3⟩
            · rw [hg] at h
              have := HO5.out.new g h.symm
              omega
            · rw [hg] at h
              injection h with h
              omega)
        have Er := Lib.hid er
        clear er hrow6 hm6 hb6 hr7
        go_wp2_with (at_builtin; refine wpList_appR rfl (.tmp 54) (.tmp 57) 22 rfl Er.out ?_)
        go_ret
        exact ⟨A6, _, c6, rfl, HO6.out, HB6.out⟩
      | some ad =>
        have hnc := Hh.out.le
        have hcm := Hh.out.max
        have hcm' : c ≤ 9223372036854775807 := by unfold maxLen at hcm; omega
        by_cases hkn : k < n
        · obtain ⟨g, off, eA, hg, _⟩ := Hh.out.cells (by omega)
          injection eA with eA
          subst eA
          have hkc : k < c := by omega
          have hr7 : IsL w5 (some ⟨g, off + k * 3, none⟩) (n - k) (c - k) (l.drop k) := isL_drop hL5 hkc (by omega)
          obtain ⟨v', w6, er, hrow6, hm6, hb6⟩ := appL HO5.out.row hr7 (by omega)
          obtain ⟨A6, c6, rfl⟩ := row_shape hrow6
          have HB6 : Hid (Below w.heap.size w w6) := Lib.hid (hm6.below (bnext HB1.out HB5.out) (bnext HB1.out HB5.out).size (fun i hi => by have := HO5.out.new i hi; have := HB1.out.size; omega))
          have HO6 : Hid (OwnL w6 w.heap.size A6 (k + 1 + (n - k)) c6 (putR l m)) := Lib.hid (by
            refine ⟨?_, fun g hg => ?_⟩
            · have e : mcs (l.take k ++ [m]) ++ mcs (l.drop k) = mcs (putR l m) := by
                rw [← mcs_append]
                unfold putR
                rw [Hat.out]
              show Row w6 3 _ _ (mcs (putR l m))
              rw [← e]
              exact hrow6
            · have h1 := HB1.out.size
              have h2 := HB5.out.size
              rcases hb6 with h | ⟨g', h, h3⟩
              · rw [hg] at h
                have := HO5.out.new g h.symm
                omega
              · rw [hg] at h
                injection h with h
                omega)
          have Er := Lib.hid er
          clear er hrow6 hm6 hb6 hr7
          go_wp2_with (at_builtin; refine wpList_appR rfl (.tmp 54) (.tmp 57) 22 rfl Er.out ?_)
          go_ret
          exact ⟨A6, _, c6, rfl, HO6.out, HB6.out⟩
        · obtain rfl : k = n := by omega
          have Hdrop : Hid (l.drop k = []) := Lib.hid (List.drop_eq_nil_of_le (by rw [hlen.out]; omega))
          have HB6 : Hid (Below w.heap.size w w5) := Lib.hid (bnext HB1.out HB5.out)
          have HO6 : Hid (OwnL w5 w.heap.size (some q) (k + 1) cap' (putR l m)) := Lib.hid (by
            have e : l.take k ++ [m] = putR l m := by
              unfold putR
              rw [Hat.out, Hdrop.out, List.append_nil]
            rw [← e]
            exact ⟨HO5.out.row, fun g hg => Nat.le_trans HB1.out.size (HO5.out.new g hg)⟩)
          by_cases hkc : k = c
          · subst hkc
            go_wp2_with (at_builtin; refine wpList_appR rfl (.tmp 54) (.tmp 57) 22 rfl (append_zero HO5.out.row _ _ _ i0 Try.underlying22 Hi.out _ _) ?_)
            go_ret
            exact ⟨some q, k + 1, cap', rfl, HO6.out, HB6.out⟩
          · have hkc' : k < c := by omega
            go_wp2_with (at_builtin; refine wpList_appR rfl (.tmp 54) (.tmp 57) 22 rfl (append_zero HO5.out.row _ _ _ i0 Try.underlying22 Hi.out _ _) ?_)
            go_ret
            exact ⟨some q, k + 1, cap', rfl, HO6.out, HB6.out⟩
end Go.Proofs.Ytfdbkmncgngkjaa
