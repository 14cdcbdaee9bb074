/- Which nodes a pulse tells: the late ones, and those that are watched. -/
import Derived.Test.YtjmhepipkmbbmaaPulse
import Derived.Test.YtjmhepipkmbbmaaRows7
namespace Go.Proofs.Ytjmhepipkmbbmaa
open Go.RowKit

theorem late_run {u : World} {q b : Nat} {l : Int} (t : Int) (hq : u.cell? ⟨q, 0, none⟩ = some (.pointer (some ⟨b, 0, none⟩))) (hl : u.cell? ⟨b, 0, none⟩ = some (.int .i64 l)) :
    Calls Try.prog 28 #[.int .i64 t, .pointer (some ⟨q, 0, none⟩)] u fun e u' => e = .returned (.bool (t == mostP l)) ∧ u = u' := by
  go_enter Try.func28, Try.ntmps28
  go_wp2_with fail
  refine (most_any _ b l hl).mono ?_
  rintro e w1 ⟨rfl, rfl⟩
  go_wp2
  go_ret
  exact ⟨rfl, rfl⟩
theorem watched_run (u : World) (t : Int) :
    Calls Try.prog 29 #[.int .i64 t] u fun e u' => e = .returned (.bool true) ∧ u = u' := by
  go_enter Try.func29, Try.ntmps29
  go_wp2
  go_ret
  exact ⟨rfl, rfl⟩
set_option maxHeartbeats 1000000 in
theorem those_late {w : World} {b q : Nat} {s : PS} (h : IsP w b s) (hq : w.cell? ⟨q, 0, none⟩ = some (.pointer (some ⟨b, 0, none⟩))) :
    Calls Try.prog 26 #[.func (.func 27) #[.pointer (some ⟨b, 0, none⟩)] #[], .func (.func 28) #[] #[.pointer (some ⟨q, 0, none⟩)]] w (Rowed w (pick (fun k => s.wt k && s.tk k == mostP s.lim) 8)) := by
  obtain ⟨i0, hi, hz0, hz1, hz2⟩ := info_parts infoI
  obtain ⟨B, HB⟩ : ∃ B, Hid (w.heap.size = B) := ⟨_, Lib.hid rfl⟩
  have Hi := Lib.hid hi
  have Hz0 := Lib.hid hz0
  have Hz1 := Lib.hid hz1
  have Hz2 := Lib.hid hz2
  have Hh := Lib.hid h
  have Hq := Lib.hid hq
  clear hq
  obtain ⟨p, Hp⟩ : ∃ p, Hid ((fun k => s.wt k && s.tk k == mostP s.lim) = p) := ⟨_, Lib.hid rfl⟩
  rw [Hp.out]
  clear hi hz0 hz1 hz2 h
  go_enter Try.func26, Try.ntmps26
  go_wp2
  go_loopw [5, 9] (fun v i wr => ∃ k : Nat, i = .int .i64 (k : Int) ∧ k ≤ 8 ∧ wr.ownsRow B 3 1 v (pick p k).length (cellsI (pick p k)) ∧ Below B w wr) (fun _ i _ => 8 - (intOf i).toNat)
  case atStart => exact ⟨0, rfl, by omega, World.ownsRow_nil _ _ _ _, Below.refl _ _⟩
  case round =>
    obtain ⟨k, rfl, hk, hown, hbel⟩ := hrel
    have Hown := Lib.hid hown
    have Hbel := Lib.hid hbel
    clear hown hbel
    have hle := pick_len p k
    by_cases hlt : k < 8
    · have hlt' : (k : Int) < 8 := by omega
      have He := Lib.hid (pick_succ p k)
      have Hpk : Hid (p k = (s.wt k && s.tk k == mostP s.lim)) := Lib.hid (by rw [← Hp.out])
      obtain ⟨zs, Hzs⟩ : ∃ zs, Hid (pick p k = zs) := ⟨_, Lib.hid rfl⟩
      rw [Hzs.out] at He Hown hle
      have Hw1 : Hid (IsP wr b s) := Lib.hid (Hh.out.below (HB.out ▸ Hbel.out))
      obtain ⟨x, Hx⟩ : ∃ x, Hid (s.wt k = x) := ⟨_, Lib.hid rfl⟩
      obtain ⟨y, Hy⟩ : ∃ y, Hid (s.tk k = y) := ⟨_, Lib.hid rfl⟩
      rw [Hx.out, Hy.out] at Hpk
      go_wp2_with fail
      refine (look_in Hw1.out k hlt).mono ?_
      rw [Hx.out, Hy.out]
      rintro e w1 ⟨rfl, hb1⟩
      have Hb1 := Lib.hid hb1
      have Hown1 := Lib.hid (own_below Hown.out hb1)
      have Hbel1 : Hid (Below B w w1) := Lib.hid (Hbel.out.trans (hb1.mono (by have := Hbel.out.size; have := HB.out; omega)))
      clear hb1
      cases x with
      | false =>
        have Hf : Hid (p k = false) := Lib.hid (by rw [Hpk.out]; try rfl)
        go_wp2
        go_roundw
        case rel => exact ⟨k + 1, by go_num, by omega, by rw [He.out, Hf.out]; exact Hown1.out, Hbel1.out⟩
        case measure => simp [intOf]; omega
      | true =>
        go_wp2_with fail
        refine (late_run y ((Hbel1.out.cell (p := ⟨q, 0, none⟩) (by rw [← HB.out]; exact lt_of_cell Hq.out)).trans Hq.out) (Hw1.out.below Hb1.out).lim).mono ?_
        rintro e w2 ⟨rfl, rfl⟩
        obtain ⟨pk, Hpk2⟩ : ∃ pk, Hid (p k = pk) := ⟨_, Lib.hid rfl⟩
        rw [Hpk2.out] at Hpk He
        have hb : (y == mostP s.lim) = pk := by have := Hpk.out; simpa using this.symm
        rw [hb]
        clear hb
        cases pk with
        | false =>
          go_wp2
          go_roundw
          case rel => exact ⟨k + 1, by go_num, by omega, by rw [He.out]; exact Hown1.out, Hbel1.out⟩
          case measure => simp [intOf]; omega
        | true =>
          go_wp2_with (at_builtin; refine wpList_append_own _ rfl _ _ 36 rfl B 3 i0 (.int .i64 0) 1 8 Try.underlying36 Hi.out Hz0.out Hz1.out Hz2.out rfl (by decide) _ _ _ rfl (Hown1.out.alloc _) ⟨w1.heap.size, 0, none⟩ 1 1 [.int .i64 ((k : Nat) : Int)] rfl rfl ?c1 ?c2 ?c3 ?c4 ?c5 ?_)
          case c1 =>
            intro j u hj
            match j, hj with
            | 0, hj => simp at hj; subst hj; simp [Addr.add, go_sem]
          case c2 => intro u hu; simp at hu; subst hu; rfl
          case c3 => unfold maxLen; omega
          case c4 => omega
          case c5 => have := Hbel1.out.size; have := HB.out; simp; omega
          intro v' w4 hown' hgrow _
          have Hown' := Lib.hid hown'
          have Hbel' := Lib.hid (Below.grown (Hbel1.out.alloc (by have := Hbel1.out.size; have := HB.out; omega) _) hgrow (by have := Hbel1.out.size; have := HB.out; simp; omega) fun r hr => (Hown1.out.lt r hr).1)
          clear hown' hgrow
          go_wp2
          go_roundw
          case rel =>
            refine ⟨k + 1, by go_num, by omega, ?_, Hbel'.out⟩
            rw [He.out, if_pos trivial, List.length_append, cellsI_snoc]
            exact Hown'.out
          case measure => simp [intOf]; omega
    · obtain rfl : k = 8 := by omega
      go_wp2
      go_ret
      exact rowed_of Hown.out HB.out (HB.out ▸ Hbel.out) (by unfold maxLen; omega) (fun z hz => by have := pick_mem hz; omega)
set_option maxHeartbeats 1000000 in
theorem those_all {w : World} {b : Nat} {s : PS} (h : IsP w b s) :
    Calls Try.prog 26 #[.func (.func 27) #[.pointer (some ⟨b, 0, none⟩)] #[], .func (.func 29) #[] #[]] w (Rowed w (pick (fun k => s.wt k) 8)) := by
  obtain ⟨i0, hi, hz0, hz1, hz2⟩ := info_parts infoI
  obtain ⟨B, HB⟩ : ∃ B, Hid (w.heap.size = B) := ⟨_, Lib.hid rfl⟩
  have Hi := Lib.hid hi
  have Hz0 := Lib.hid hz0
  have Hz1 := Lib.hid hz1
  have Hz2 := Lib.hid hz2
  have Hh := Lib.hid h
  obtain ⟨p, Hp⟩ : ∃ p, Hid ((fun k => s.wt k) = p) := ⟨_, Lib.hid rfl⟩
  rw [Hp.out]
  clear hi hz0 hz1 hz2 h
  go_enter Try.func26, Try.ntmps26
  go_wp2
  go_loopw [5, 9] (fun v i wr => ∃ k : Nat, i = .int .i64 (k : Int) ∧ k ≤ 8 ∧ wr.ownsRow B 3 1 v (pick p k).length (cellsI (pick p k)) ∧ Below B w wr) (fun _ i _ => 8 - (intOf i).toNat)
  case atStart => exact ⟨0, rfl, by omega, World.ownsRow_nil _ _ _ _, Below.refl _ _⟩
  case round =>
    obtain ⟨k, rfl, hk, hown, hbel⟩ := hrel
    have Hown := Lib.hid hown
    have Hbel := Lib.hid hbel
    clear hown hbel
    have hle := pick_len p k
    by_cases hlt : k < 8
    · have hlt' : (k : Int) < 8 := by omega
      have He := Lib.hid (pick_succ p k)
      have Hpk : Hid (p k = (s.wt k)) := Lib.hid (by rw [← Hp.out])
      obtain ⟨zs, Hzs⟩ : ∃ zs, Hid (pick p k = zs) := ⟨_, Lib.hid rfl⟩
      rw [Hzs.out] at He Hown hle
      have Hw1 : Hid (IsP wr b s) := Lib.hid (Hh.out.below (HB.out ▸ Hbel.out))
      obtain ⟨x, Hx⟩ : ∃ x, Hid (s.wt k = x) := ⟨_, Lib.hid rfl⟩
      obtain ⟨y, Hy⟩ : ∃ y, Hid (s.tk k = y) := ⟨_, Lib.hid rfl⟩
      rw [Hx.out] at Hpk
      go_wp2_with fail
      refine (look_in Hw1.out k hlt).mono ?_
      rw [Hx.out, Hy.out]
      rintro e w1 ⟨rfl, hb1⟩
      have Hb1 := Lib.hid hb1
      have Hown1 := Lib.hid (own_below Hown.out hb1)
      have Hbel1 : Hid (Below B w w1) := Lib.hid (Hbel.out.trans (hb1.mono (by have := Hbel.out.size; have := HB.out; omega)))
      clear hb1
      cases x with
      | false =>
        have Hf : Hid (p k = false) := Lib.hid (by rw [Hpk.out]; try rfl)
        go_wp2
        go_roundw
        case rel => exact ⟨k + 1, by go_num, by omega, by rw [He.out, Hf.out]; exact Hown1.out, Hbel1.out⟩
        case measure => simp [intOf]; omega
      | true =>
        go_wp2_with fail
        refine (watched_run _ y).mono ?_
        rintro e w2 ⟨rfl, rfl⟩
        obtain ⟨pk, Hpk2⟩ : ∃ pk, Hid (p k = pk) := ⟨_, Lib.hid rfl⟩
        rw [Hpk2.out] at Hpk He
        have hb : true = pk := by have := Hpk.out; simpa using this.symm
        cases pk with
        | false =>
          cases hb
        | true =>
          go_wp2_with (at_builtin; refine wpList_append_own _ rfl _ _ 36 rfl B 3 i0 (.int .i64 0) 1 8 Try.underlying36 Hi.out Hz0.out Hz1.out Hz2.out rfl (by decide) _ _ _ rfl (Hown1.out.alloc _) ⟨w1.heap.size, 0, none⟩ 1 1 [.int .i64 ((k : Nat) : Int)] rfl rfl ?c1 ?c2 ?c3 ?c4 ?c5 ?_)
          case c1 =>
            intro j u hj
            match j, hj with
            | 0, hj => simp at hj; subst hj; simp [Addr.add, go_sem]
          case c2 => intro u hu; simp at hu; subst hu; rfl
          case c3 => unfold maxLen; omega
          case c4 => omega
          case c5 => have := Hbel1.out.size; have := HB.out; simp; omega
          intro v' w4 hown' hgrow _
          have Hown' := Lib.hid hown'
          have Hbel' := Lib.hid (Below.grown (Hbel1.out.alloc (by have := Hbel1.out.size; have := HB.out; omega) _) hgrow (by have := Hbel1.out.size; have := HB.out; simp; omega) fun r hr => (Hown1.out.lt r hr).1)
          clear hown' hgrow
          go_wp2
          go_roundw
          case rel =>
            refine ⟨k + 1, by go_num, by omega, ?_, Hbel'.out⟩
            rw [He.out, if_pos trivial, List.length_append, cellsI_snoc]
            exact Hown'.out
          case measure => simp [intOf]; omega
    · obtain rfl : k = 8 := by omega
      go_wp2
      go_ret
      exact rowed_of Hown.out HB.out (HB.out ▸ Hbel.out) (by unfold maxLen; omega) (fun z hz => by have := pick_mem hz; omega)
/-- Those that are late. -/
def lateL (s : PS) : List Nat := pick (fun k => s.wt k && s.tk k == mostP s.lim) 8
def allL (s : PS) : List Nat := pick (fun k => s.wt k) 8
theorem those_nil {w : World} (f : Value) :
    Calls Try.prog 26 #[.func (.func 27) #[.pointer none] #[], f] w fun e w' => e = .returned (.slice none 0 0) ∧ w = w' := by
  go_enter Try.func26, Try.ntmps26
  go_wp2
  go_loop [5, 9] (fun v i => ∃ k : Nat, i = .int .i64 (k : Int) ∧ k ≤ 8 ∧ v = .slice none 0 0) (fun _ i => 8 - (intOf i).toNat)
  case atStart => exact ⟨0, rfl, by omega, rfl⟩
  case round =>
    obtain ⟨k, rfl, hk, rfl⟩ := hrel
    by_cases hlt : k < 8
    · have hlt' : (k : Int) < 8 := by omega
      go_wp2_with fail
      refine (look_nil _ _).mono ?_
      rintro e w1 ⟨rfl, rfl⟩
      go_wp2
      go_round
      case rel => exact ⟨k + 1, by go_num, by omega, rfl⟩
      case measure => simp [intOf]; omega
    · obtain rfl : k = 8 := by omega
      go_wp2
      go_ret
      exact ⟨rfl, rfl⟩
theorem Late_any {w : World} {b : Nat} {s : PS} (h : IsP w b s) :
    Calls Try.prog 18 #[.pointer (some ⟨b, 0, none⟩)] w (Rowed w (lateL s)) := by
  have Hl := Lib.hid (those_late (q := w.heap.size) (h.below (balloc (Below.refl _ _) (.cells #[.pointer (some ⟨b, 0, none⟩)] 24))) (by simp [go_sem]))
  clear h
  go_enter Try.func18, Try.ntmps18
  go_wp2_with fail
  refine Hl.out.mono ?_
  rintro e w1 ⟨a, n, c, rfl, hi, hp, hb⟩
  have Hp := Lib.hid hp
  clear hp
  have Hb := Lib.hid hb
  have Hi := Lib.hid hi
  clear hb hi
  go_wp2
  go_ret
  exact ⟨_, _, _, rfl, Hi.out, fun p h => by have := Hp.out p h; simp at this; omega, bnext (balloc (Below.refl _ _) _) Hb.out⟩
theorem Late_nil (w : World) :
    Calls Try.prog 18 #[.pointer none] w fun e w' => e = .returned (.slice none 0 0) ∧ Below w.heap.size w w' := by
  go_enter Try.func18, Try.ntmps18
  go_wp2_with fail
  refine (those_nil _).mono ?_
  rintro e w1 ⟨rfl, rfl⟩
  go_wp2
  go_ret
  exact ⟨rfl, balloc (Below.refl _ _) _⟩
theorem Watched_any {w : World} {b : Nat} {s : PS} (h : IsP w b s) :
    Calls Try.prog 20 #[.pointer (some ⟨b, 0, none⟩)] w (Rowed w (allL s)) := by
  have Hl := Lib.hid (those_all h)
  clear h
  go_enter Try.func20, Try.ntmps20
  go_wp2_with fail
  refine Hl.out.mono ?_
  rintro e w1 ⟨a, n, c, rfl, hi, hp, hb⟩
  have Hp := Lib.hid hp
  clear hp
  have Hb := Lib.hid hb
  have Hi := Lib.hid hi
  clear hb hi
  go_wp2
  go_ret
  exact ⟨_, _, _, rfl, Hi.out, Hp.out, Hb.out⟩
theorem Watched_nil (w : World) :
    Calls Try.prog 20 #[.pointer none] w fun e w' => e = .returned (.slice none 0 0) ∧ Below w.heap.size w w' := by
  go_enter Try.func20, Try.ntmps20
  go_wp2_with fail
  refine (those_nil _).mono ?_
  rintro e w1 ⟨rfl, rfl⟩
  go_wp2
  go_ret
  exact ⟨rfl, Below.refl _ _⟩
end Go.Proofs.Ytjmhepipkmbbmaa
