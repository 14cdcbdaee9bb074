/- Fence and Write: what puts something behind what is there. -/
import Derived.Test.YtcahccjlompilaaDiskC
namespace Go.Proofs.Ytcahccjlompilaa
open Go.RowKit Go.MapKept

theorem infoI : (Try.prog.info? 3).map (fun i => (i.zero, i.size, i.bytes)) = some (some (.int .i64 0), 1, 8) := by kernel_rfl
theorem Contains_any {w : World} {v : Value} {zs : List Int} (h : Row w 1 v zs.length (ci zs)) (x : Int) :
    Calls Try.prog 53 #[v, .int .i64 x] w fun e w' => e = .returned (.bool (zs.contains x)) ∧ w = w' := by
  rcases h.is with ⟨rfl, h0⟩ | ⟨g, off, cap, rfl, _, _, h1, h2, _⟩
  · obtain rfl : zs = [] := List.eq_nil_of_length_eq_zero h0
    exact (Try.slices_Contains_int_empty none 0 x w).mono fun e w' ⟨he, hw⟩ => ⟨he, hw.symm⟩
  · have := Try.slices_Contains_int g off zs.length cap zs x w (Nat.le_refl _) (by unfold maxLen at h1; omega) (fun j hj => h2 j _ (by simp [ci, hj, List.getD]))
    rw [List.take_of_length_le (Nat.le_refl _)] at this
    exact this.mono fun e w' ⟨he, hw⟩ => ⟨he, hw.symm⟩
section
variable {w : World} {b n : Nat} {ρ : Nat → Role} {s : DS} {lb kb cb : Nat} {pv : Value} {cf : Int → Option Value}
/-- What Fence leaves, where it may be asked. -/
def DS.fence (s : DS) (t : Int) : DS := if s.keys t = 1 ∧ s.pend.contains t = false then s.pendTo (s.pend ++ [t]) else s
theorem Fence_arg {w : World} {b : Nat} {k t : Int} (ht : t < 1) :
    Calls Try.prog 26 #[.pointer (some ⟨b, 0, none⟩), .int .i64 k, .int .i64 t] w fun e w' => e = .returned (.int .i64 1) ∧ w = w' := by
  go_enter Try.func26, Try.ntmps26
  go_wp2
  go_ret
  exact ⟨rfl, rfl⟩
theorem Fence_no (h : Dk w b ρ n s lb kb cb pv cf) {k t : Int} (hk : (Lit.int .i64 k).wf = true) (ht : ¬ t < 1) (hr : s.keys k ≠ 1) :
    Calls Try.prog 26 #[.pointer (some ⟨b, 0, none⟩), .int .i64 k, .int .i64 t] w fun e w' => e = .returned (.int .i64 14) ∧ w = w' := by
  have hr' : (s.keys k == 1) = false := beq_no hr
  clear hr
  go_enter Try.func26, Try.ntmps26
  go_wp2_with fail
  refine (Registered_any h hk).mono ?_
  rw [hr']
  rintro e w1 ⟨rfl, rfl⟩
  go_wp2
  go_ret
  exact ⟨rfl, rfl⟩
set_option maxRecDepth 100000 in
set_option maxHeartbeats 400000 in
theorem Fence_yes (h : Dk w b ρ n s lb kb cb pv cf) {k t : Int} (hk : (Lit.int .i64 k).wf = true) (htw : (Lit.int .i64 t).wf = true) (ht : ¬ t < 1) (hr : s.keys k = 1) (hn : n + 1 ≤ 1000000) :
    Calls Try.prog 26 #[.pointer (some ⟨b, 0, none⟩), .int .i64 k, .int .i64 t] w (Did w b ρ (n + 1) (s.fence t) (.int .i64 0)) := by
  have hr' : (s.keys k == 1) = true := beq_yes hr
  have c3 := h.c3
  have f3 := h.f3
  clear hr
  by_cases h1 : s.keys t = 1
  · have h1' : (s.keys t == 1) = true := beq_yes h1
    cases h2 : s.pend.contains t with
    | true =>
      have e : s.fence t = s := by rw [DS.fence, if_neg]; rw [h2]; simp
      rw [e]
      have Hh := Lib.hid h
      have H2 := Lib.hid h2
      clear h1 h2 e
      go_enter Try.func26, Try.ntmps26
      go_wp2_with fail
      refine (Registered_any h hk).mono ?_
      rw [hr']
      rintro e w1 ⟨rfl, rfl⟩
      go_wp2_with fail
      refine (Registered_any h htw).mono ?_
      rw [h1']
      rintro e w1 ⟨rfl, rfl⟩
      go_wp2_with fail
      refine (Contains_any h.pen t).mono ?_
      rw [H2.out]
      rintro e w1 ⟨rfl, rfl⟩
      go_wp2
      go_ret
      exact ⟨rfl, ρ, ⟨_, _, _, _, _, Hh.out.mono (Nat.le_succ n) hn⟩, Step.refl _ _⟩
    | false =>
      have e : s.fence t = s.pendTo (s.pend ++ [t]) := by rw [DS.fence, if_pos ⟨h1, h2⟩]
      rw [e]
      have Hh := Lib.hid h
      have H2 := Lib.hid h2
      obtain ⟨i0, hi, hz0, hz1, hz2⟩ := info_parts infoI
      have Hi := Lib.hid hi
      have Hz0 := Lib.hid hz0
      have Hz1 := Lib.hid hz1
      have Hz2 := Lib.hid hz2
      have hbel : Below w.heap.size w (w.alloc (.cells #[.int .i64 t] 3)) := (Below.refl _ _).alloc (Nat.le_refl _) _
      have Hrow := Lib.hid (h.pen.later (Mod.of_below (S := fun _ => False) hbel) (fun _ _ => id))
      have Hbel := Lib.hid hbel
      have hpn := h.fine.pend
      have hbl := lt_of_cell h.c3
      have hnp : ¬ (blk pv = some b) := fun e => by have := h.penr b e; rw [h.rb] at this; cases this
      have Hnp := Lib.hid hnp
      clear h1 h2 e hi hz0 hz1 hz2 hbel hnp
      go_enter Try.func26, Try.ntmps26
      go_wp2_with fail
      refine (Registered_any h hk).mono ?_
      rw [hr']
      rintro e w1 ⟨rfl, rfl⟩
      go_wp2_with fail
      refine (Registered_any h htw).mono ?_
      rw [h1']
      rintro e w1 ⟨rfl, rfl⟩
      go_wp2_with fail
      refine (Contains_any h.pen t).mono ?_
      rw [H2.out]
      rintro e w1 ⟨rfl, rfl⟩
      go_wp2_with (at_builtin; refine wpList_append_row _ rfl (.tmp 33) (.tmp 35) 29 rfl Hrow.out 3 i0 (.int .i64 0) 8 Try.underlying29 Hi.out Hz0.out Hz1.out Hz2.out rfl (by decide) rfl ⟨w.heap.size, 0, none⟩ 1 1 [.int .i64 t] rfl rfl ?c1 ?c2 (by decide) ?c3 ?c4 ?_)
      case c1 =>
        intro j u hj
        match j, hj with
        | 0, hj => simp at hj; subst hj; simp [Addr.add, go_sem]
      case c2 => intro u hu; simp at hu; subst hu; rfl
      case c3 => unfold maxLen; omega
      case c4 => omega
      intro x cap w2 hr hm hb'
      have m02 : Mod (fun g => blk pv = some g) w w2 := (Mod.of_below Hbel.out).trans hm
      have g0 : w2.cell? ⟨b, 3, none⟩ = some pv := (m02.cell (p := ⟨b, 3, none⟩) hbl Hnp.out).trans c3
      have g1 : w2.frozen? ⟨b, 3, none⟩ = false := (m02.frozen (p := ⟨b, 3, none⟩) hbl Hnp.out).trans f3
      have Hm := Lib.hid m02
      have Hr := Lib.hid hr
      have Hb' := Lib.hid hb'
      clear hr hm hb' m02
      go_wp2
      go_ret
      have hr := Hr.out
      have e : ci s.pend ++ [Value.int .i64 t] = ci (s.pend ++ [t]) := by simp [ci]
      rw [e] at hr
      have hl : (s.pend ++ [t]).length = s.pend.length + 1 := by simp
      obtain ⟨ρ', D, S⟩ := Hh.out.pendTo (w1 := w2) (pv' := .slice (some x) (s.pend.length + 1) cap) (l := s.pend ++ [t]) Hm.out (by rw [hl]; exact hr) (by rw [hl]; omega) hn (fun k hk' => by
        rcases List.mem_append.1 hk' with h1 | h1
        · exact Hh.out.fine.pends k h1
        · simp at h1; rw [h1]; exact htw) (fun g hg => by
        rcases Hb'.out with h1 | ⟨g', h1, h2⟩
        · exact .inl (h1 ▸ hg)
        · rw [hg] at h1
          injection h1 with h1
          have := Hbel.out.size
          exact .inr (by omega))
      exact ⟨rfl, ρ', ⟨_, _, _, _, _, D⟩, S⟩
  · have h1' : (s.keys t == 1) = false := beq_no h1
    have e : s.fence t = s := by rw [DS.fence, if_neg]; exact fun h => h1 h.1
    rw [e]
    have Hh := Lib.hid h
    clear h1 e
    go_enter Try.func26, Try.ntmps26
    go_wp2_with fail
    refine (Registered_any h hk).mono ?_
    rw [hr']
    rintro e w1 ⟨rfl, rfl⟩
    go_wp2_with fail
    refine (Registered_any h htw).mono ?_
    rw [h1']
    rintro e w1 ⟨rfl, rfl⟩
    go_wp2
    go_ret
    exact ⟨rfl, ρ, ⟨_, _, _, _, _, Hh.out.mono (Nat.le_succ n) hn⟩, Step.refl _ _⟩
end
end Go.Proofs.Ytcahccjlompilaa
