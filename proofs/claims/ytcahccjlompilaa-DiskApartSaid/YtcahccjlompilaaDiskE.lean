/- A write, put at the end of its key's cache: one statement, whose order is open. -/
import Derived.Test.YtcahccjlompilaaDiskD
import Derived.Deep.RegionLaw
namespace Go.Proofs.Ytcahccjlompilaa
open Go.RowKit Go.MapKept

theorem infoW : (Try.prog.info? 76).map (fun i => (i.zero, i.size, i.bytes)) = some (some (.agg #[.int .i64 0, .string ByteArray.empty]), 2, 24) := by kernel_rfl
/-- append as a step of a region that draws its order. -/
theorem step_append_row {w : World} {ops : Array Oper} {o : Oper} {a : Act} {K : Act → World → Prop} {Q : Exit → Act → World → Prop} {E : Prop} (hgd : o.guard = none) (s x : Operand) (t : TypeId)
    (ho : o.op = .call { callee := .builtin .append, args := #[s, x], argTypes := #[t, t] }) {size : Nat} {v : Value} {n : Nat} {xs : List Value} (h : Row w size v n xs) (e : TypeId) (i : TypeInfo) (z : Value) (bytes : Nat) (ht : Try.prog.underlying t = some (.slice e)) (hi : Try.prog.info? e = some i) (hz : i.zero = some z)
    (hsize : i.size = size) (hby : i.bytes = bytes) (hzs : z.cells.size = size) (hsz : 0 < size) (hs : a.eval s = v)
    (ad : Addr) (m c : Nat) (news : List Value) (hx : a.eval x = .slice (some ad) m c) (hl : news.length = m * size) (hnews : ∀ j u, news[j]? = some u → w.cell? (ad.add j) = some u) (h1 : ∀ u ∈ news, u.oneCell' = true) (hm : 0 < m)
    (h63 : n + m ≤ maxLen) (hbytes : (n + m) * bytes ≤ 140737488355328)
    (hK : ∀ x cap w', Row w' size (.slice (some x) (n + m) cap) (n + m) (xs ++ news) → Mod (fun g => blk v = some g) w w' → (blk (.slice (some x) (n + m) cap) = blk v ∨ ∃ g, blk (.slice (some x) (n + m) cap) = some g ∧ w.heap.size ≤ g) → K (a.put o.dst (.slice (some x) (n + m) cap)) w') :
    if Region.wanted o (yielded ops a.tmps) = true then Oper.wp Try.prog o a w K Q else E := by
  have hw : Region.wanted o (yielded ops a.tmps) = true := by simp [Region.wanted, hgd]
  rw [if_pos hw]
  obtain ⟨v', w', hr, h2, _, h3, h4, ⟨x, cap, rfl⟩, _⟩ := h.append t o.type e i z bytes ht hi hz hsize hby hzs hsz ad m c news hl hnews h1 hm h63 hbytes
  unfold Oper.wp execOp
  simp only [ho, resolve, invoke, builtin, Sem.run_bind, Sem.run_pure, Result.andThen_ok, List.map_toArray, List.map_cons, List.map_nil, hs, hx, hr]
  exact hK x cap w' h2 h3 h4
section
variable {w : World} {b n : Nat} {ρ : Nat → Role} {s : DS} {lb kb cb : Nat} {pv : Value} {cf : Int → Option Value}
theorem Write_arg (h : Dk w b ρ n s lb kb cb pv cf) {k i : Int} {l : List UInt8} (ha : thereB s i = false ∨ l.length ≠ 512) :
    Calls Try.prog 17 #[.pointer (some ⟨b, 0, none⟩), .int .i64 k, .int .i64 i, .string (str l)] w fun e w' => e = .returned (.int .i64 1) ∧ w = w' := by
  cases ht : thereB s i with
  | false =>
    go_enter Try.func17, Try.ntmps17
    go_wp2_with fail
    refine (there_any h _).mono ?_
    rw [ht]
    rintro e w1 ⟨rfl, rfl⟩
    go_wp2
    go_ret
    exact ⟨rfl, rfl⟩
  | true =>
    have hl : decide (l.length = 512) = false := by rcases ha with h | h; rw [ht] at h; cases h; simpa using h
    clear ha
    go_enter Try.func17, Try.ntmps17
    go_wp2_with fail
    refine (there_any h _).mono ?_
    rw [ht]
    rintro e w1 ⟨rfl, rfl⟩
    go_wp2_with fail
    refine (whole_any _ _).mono ?_
    rw [hl]
    rintro e w1 ⟨rfl, rfl⟩
    go_wp2
    go_ret
    exact ⟨rfl, rfl⟩
theorem Write_no (h : Dk w b ρ n s lb kb cb pv cf) {k i : Int} {l : List UInt8} (hk : (Lit.int .i64 k).wf = true) (ht : thereB s i = true) (hl : l.length = 512) (hr : s.keys k ≠ 1) :
    Calls Try.prog 17 #[.pointer (some ⟨b, 0, none⟩), .int .i64 k, .int .i64 i, .string (str l)] w fun e w' => e = .returned (.int .i64 14) ∧ w = w' := by
  have hl' : decide (l.length = 512) = true := by simpa using hl
  have hr' : (s.keys k == 1) = false := beq_no hr
  clear hl hr
  go_enter Try.func17, Try.ntmps17
  go_wp2_with fail
  refine (there_any h _).mono ?_
  rw [ht]
  rintro e w1 ⟨rfl, rfl⟩
  go_wp2_with fail
  refine (whole_any _ _).mono ?_
  rw [hl']
  rintro e w1 ⟨rfl, rfl⟩
  go_wp2_with fail
  refine (Registered_any h hk).mono ?_
  rw [hr']
  rintro e w1 ⟨rfl, rfl⟩
  go_wp2
  go_ret
  exact ⟨rfl, rfl⟩
set_option maxRecDepth 100000 in
set_option maxHeartbeats 1000000 in
theorem Write_yes (h : Dk w b ρ n s lb kb cb pv cf) {k : Int} {i : Nat} {l : List UInt8} (hk : (Lit.int .i64 k).wf = true) (hi : i < s.lies.length) (hl : l.length = 512) (hr : s.keys k = 1) (hn : n + 1 ≤ 1000000) :
    Calls Try.prog 17 #[.pointer (some ⟨b, 0, none⟩), .int .i64 k, .int .i64 (i : Int), .string (str l)] w (Did w b ρ (n + 1) (s.cacheTo k (s.caches k ++ [(i, l)])) (.int .i64 0)) := by
  have ht : thereB s i = true := by simp [thereB]; omega
  have hl' : decide (l.length = 512) = true := by simpa using hl
  have hr' : (s.keys k == 1) = true := beq_yes hr
  obtain ⟨a, cap, hlk, hrow, hcf⟩ := h.lookC hk
  have Hl := Lib.hid hl
  have Hrow := Lib.hid hrow
  have Hcf := Lib.hid hcf
  have Hh := Lib.hid h
  clear hl hr hrow hcf
  go_enter Try.func17, Try.ntmps17
  go_wp2_with fail
  refine (there_any h _).mono ?_
  rw [ht]
  rintro e w1 ⟨rfl, rfl⟩
  go_wp2_with fail
  refine (whole_any _ _).mono ?_
  rw [hl']
  rintro e w1 ⟨rfl, rfl⟩
  go_wp2_with fail
  refine (Registered_any h hk).mono ?_
  rw [hr']
  rintro e w1 ⟨rfl, rfl⟩
  go_wp2
  obtain ⟨i0, hi0, hz0, hz1, hz2⟩ := info_parts infoW
  have Hi := Lib.hid hi0
  have Hz0 := Lib.hid hz0
  have Hz1 := Lib.hid hz1
  have Hz2 := Lib.hid hz2
  have hcn := Hh.out.fine.cache k
  have hcsm := Hh.out.fine.small
  have Hwa : Hid (Below w.heap.size w ((w.alloc (.cells #[.int .i64 (i : Int), .string (str l)] 76)).drew)) := Lib.hid ((Below.refl _ _).alloc (Nat.le_refl _) _).drew
  have Hrowa := Lib.hid (Hrow.out.later (Mod.of_below (S := fun _ => False) Hwa.out) (fun _ _ => id))
  have Hda := Lib.hid (Hh.out.later (Mod.of_below (S := fun _ => False) Hwa.out) (fun _ => False.elim))
  have c2d : w.drew.cell? ⟨b, 2, none⟩ = some (.map (some cb)) := h.c2
  have c2a : ((w.alloc (.cells #[.int .i64 (i : Int), .string (str l)] 76)).drew).cell? ⟨b, 2, none⟩ = some (.map (some cb)) := Hda.out.c2
  have hla : (Instr.lookup 65 (.map (some cb)) (.int .i64 k) false).run Try.prog ((w.alloc (.cells #[.int .i64 (i : Int), .string (str l)] 76)).drew) = .ok (.slice a (s.caches k).length cap) ((w.alloc (.cells #[.int .i64 (i : Int), .string (str l)] 76)).drew) := by
    rw [Hda.out.lookV hk]
    have h1 := Hh.out.lookV hk
    rw [hlk] at h1
    injection h1 with h1
    rw [h1]
  have hld : (Instr.lookup 65 (.map (some cb)) (.int .i64 k) false).run Try.prog w.drew = .ok (.slice a (s.caches k).length cap) w.drew := by
    rw [(Hh.out.later (Mod.refl (fun _ => False) w).drew (fun _ => False.elim)).lookV hk]
    have h1 := Hh.out.lookV hk
    rw [hlk] at h1
    injection h1 with h1
    rw [h1]
  have Hc1 : Hid (∀ j u, [Value.int .i64 (i : Int), .string (str l)][j]? = some u → ((w.alloc (.cells #[.int .i64 (i : Int), .string (str l)] 76)).drew).cell? ((⟨w.heap.size, 0, none⟩ : Addr).add j) = some u) := Lib.hid fun j u hj => by
    match j, hj with
    | 0, hj => simp at hj; subst hj; simp [Addr.add, go_sem]
    | 1, hj => simp at hj; subst hj; simp [Addr.add, go_sem]
  have Hc2 : Hid (∀ u ∈ [Value.int .i64 (i : Int), .string (str l)], u.oneCell' = true) := Lib.hid fun u hu => by
    simp at hu
    rcases hu with rfl | rfl <;> rfl
  have Hc3 : Hid ((s.caches k).length + 1 ≤ maxLen) := Lib.hid (by unfold maxLen; omega)
  have Hc4 : Hid (((s.caches k).length + 1) * 24 ≤ 140737488355328) := Lib.hid (by omega)
  have Hcb : Hid (¬ (blk (.slice a (s.caches k).length cap) = some cb) ∧ ¬ (blk (.slice a (s.caches k).length cap) = some b) ∧ (blk (.slice a (s.caches k).length cap) = none ∨ cf k = some (.slice a (s.caches k).length cap))) := Lib.hid (by
    rcases Hcf.out with ⟨h4, rfl⟩ | h4
    · exact ⟨by simp [blk], by simp [blk], .inl rfl⟩
    · obtain ⟨_, h5, _⟩ := Hh.out.row k _ h4
      refine ⟨fun e => ?_, fun e => ?_, .inr h4⟩
      · have := h5 _ e; rw [Hh.out.rc] at this; cases this
      · have := h5 _ e; rw [Hh.out.rb] at this; cases this)
  go_region_law ((refine step_append_row rfl (.tmp 32) (.tmp 36) 74 rfl Hrowa.out 76 i0 (.agg #[.int .i64 0, .string ByteArray.empty]) 24 Try.underlying74 Hi.out Hz0.out Hz1.out Hz2.out rfl (by decide) (by simp [Act.eval]) ⟨w.heap.size, 0, none⟩ 1 1 [.int .i64 (i : Int), .string (str l)] (by simp [Act.eval]) rfl Hc1.out Hc2.out (by decide) Hc3.out Hc4.out ?_); intro x cap' w2 hr2 hm2 hb2; have Hr2 := Lib.hid hr2; have Hm2 := Lib.hid hm2; have Hb2 := Lib.hid hb2; clear hr2 hm2 hb2; obtain ⟨w3, hrun3, him3, hmod3, hsz3⟩ := (Hda.out.cach.later Hm2.out Hcb.out.1).store Try.underlying65 (show n < maxLen by unfold maxLen; omega) hk (.slice (some x) ((s.caches k).length + 1) cap'); have Him3 := Lib.hid him3; have Hmod3 := Lib.hid hmod3; have c22 := (Hm2.out.cell (p := ⟨b, 2, none⟩) (lt_of_cell c2a) Hcb.out.2.1).trans c2a; clear him3 hmod3 hsz3)
  all_goals
    go_wp2
    go_ret
    have hr := Hr2.out
    have e : cw (s.caches k) ++ [Value.int .i64 (i : Int), .string (str l)] = cw (s.caches k ++ [(i, l)]) := by rw [cw_append]; rfl
    rw [e] at hr
    have hlen : (s.caches k ++ [(i, l)]).length = (s.caches k).length + 1 := by simp
    obtain ⟨ρ', D, S⟩ := Hh.out.cacheTo (k := k) (w1 := w2) (w' := w3) (v0 := .slice a (s.caches k).length cap) (v' := .slice (some x) ((s.caches k).length + 1) cap') (l := s.caches k ++ [(i, l)]) hn Hcb.out.2.2 ((Mod.of_below Hwa.out).trans Hm2.out) (by rw [hlen]; exact hr)
      (Hb2.out.imp id fun ⟨g, h1, h2⟩ => ⟨g, h1, Nat.le_trans Hwa.out.size h2⟩) (by rw [hlen]; omega) (by rw [hlen]; omega)
      (fun p hp => by
        rcases List.mem_append.1 hp with h1 | h1
        · exact Hh.out.fine.cached k p h1
        · simp at h1; rw [h1]; exact ⟨hi, Hl.out⟩) Hmod3.out Him3.out
    exact ⟨rfl, ρ', ⟨_, _, _, _, _, D⟩, S⟩
end
end Go.Proofs.Ytcahccjlompilaa
