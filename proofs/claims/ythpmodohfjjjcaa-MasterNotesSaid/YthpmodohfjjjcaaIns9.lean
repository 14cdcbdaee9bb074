/- A claim put into a row, at any place. -/
import Derived.Test.YthpmodohfjjjcaaCln9
import Derived.Laws.Externs
import Derived.Laws.NewBlocks
namespace Go.Proofs.Ythpmodohfjjjcaa
open Go.RowKit

/-- A block that is one claim. -/
structure Sgl (w : World) (b : Nat) (c : Cl) : Prop where
  wf : (Lit.int .i64 c.1).wf = true ∧ (Lit.int .i64 c.2).wf = true
  node : w.cell? ⟨b, 0, none⟩ = some (.int .i64 c.1)
  mode : w.cell? ⟨b, 1, none⟩ = some (.int .i64 c.2)
  shape : ∃ t, w.shape? b = some (t, 2)
  head : w.frozen? ⟨b, 0, none⟩ = false
  tail : w.frozen? ⟨b, 2, none⟩ = false
theorem Sgl.new (w : World) (c : Cl) (h : (Lit.int .i64 c.1).wf = true ∧ (Lit.int .i64 c.2).wf = true) : Sgl (w.alloc (.cells #[.int .i64 c.1, .int .i64 c.2] 61)) w.heap.size c :=
  ⟨h, by simp [go_sem], by simp [go_sem], ⟨61, by unfold World.shape?; rw [show (w.alloc (.cells #[.int .i64 c.1, .int .i64 c.2] 61)).heap[w.heap.size]? = some (.cells #[.int .i64 c.1, .int .i64 c.2] 61) from Array.getElem?_push_size]; rfl⟩, World.frozen?_alloc_at (w := w) _ _ w.heap.size 0 rfl, World.frozen?_alloc_at (w := w) _ _ w.heap.size 2 rfl⟩
theorem Sgl.is {w : World} {b : Nat} {c : Cl} (h : Sgl w b c) : IsC w (some ⟨b, 0, none⟩) 1 [c] :=
  ⟨rfl, by decide, fun x hx => by simp at hx; subst hx; exact h.wf, fun _ => ⟨b, 0, rfl, lt_of_cell h.node, fun i x hx => by
    cases i with
    | zero =>
      simp at hx
      subst hx
      exact ⟨h.node, h.mode⟩
    | succ i => simp at hx⟩⟩
theorem Cs.shape {w : World} {g off cap : Nat} {l : List Cl} (h : Cs w g off cap l) (hc : 0 < cap) : ∃ t k, w.shape? g = some (t, k) ∧ k ≠ 0 := by
  obtain ⟨u, hu⟩ := Option.isSome_iff_exists.1 (h.there 0 (by omega))
  obtain ⟨e, n, h1, h2, _⟩ := World.shape?_of_cell? hu
  exact ⟨e, n, h1, by omega⟩
/-- copy of cells, two to an element. -/
theorem run_copy2 (w : World) (ty : TypeId) (b o dLen dCap : Nat) (a : Addr) (sLen sCap k : Nat) (cs : List Value) (hk : Nat.min sLen dLen = k) (hn : cs.length = k * 2)
    (hsrc : ∀ j v, cs[j]? = some v → w.cell? (a.add j) = some v) (hc : ∀ j, j < cs.length → (w.cell? ⟨b, o + j, none⟩).isSome = true) (hf : ∀ j, j < cs.length → w.frozen? ⟨b, o + j, none⟩ = false) (h1 : ∀ v ∈ cs, v.oneCell' = true) :
    (Builtin.copy_ #[55, 55] ty #[.slice (some ⟨b, o, none⟩) dLen dCap, .slice (some a) sLen sCap]).run Try.prog w = .ok (goInt k) (w.setCells b o cs) := by
  have hl := run_loadCells_list (P := Try.prog) w a cs hsrc
  have hst := run_storeCells_cells (P := Try.prog) b o cs 0 w (by simpa using hc) (by simpa using hf) h1
  obtain ⟨i0, hi0, hz0, hz1, hz2⟩ := infoCl
  rw [hn] at hl
  simp [Builtin.copy_, run_underlying Try.underlying55, Builtin.lenOf, Builtin.firstCells, sizeOf, typeInfo, hi0, hz1, hk, hl, hst]
theorem exec_copy {P : Program} {o : Oper} {a : Act} {w w' : World} {s x : Operand} {t : TypeId} {v' : Value} (ho : o.op = .call { callee := .builtin .copy, args := #[s, x], argTypes := #[t, t] })
    (hr : (Builtin.copy_ #[t, t] o.type #[a.eval s, a.eval x]).run P w = .ok v' w') : (execOp a.eval o).run P w = .ok (.value v') w' := by
  unfold execOp
  simp only [ho, resolve, invoke, builtin, Sem.run_bind, Sem.run_pure, Result.andThen_ok, List.map_toArray, List.map_cons, List.map_nil, hr]
/-- copy as an operation of a region that draws: one that acts. -/
theorem mix_copy {ops : Array Oper} {C : World → Prop} {Q : Exit → Act → World → Prop} {i : Nat} {l : List (Nat × Nat)} {a : Act} {w : World} {o : Oper} (hi : ops[i]? = some o) (hgd : o.guard = none) (s x : Operand) (t : TypeId)
    (ho : o.op = .call { callee := .builtin .copy, args := #[s, x], argTypes := #[t, t] }) {v' : Value} {w' : World} (hr : (Builtin.copy_ #[t, t] o.type #[a.eval s, a.eval x]).run Try.prog w = .ok v' w') (hC : C w')
    (h : wpMix Try.prog ops C Q l (a.put o.dst v') w') : wpMix Try.prog ops C Q ((i, 1) :: l) a w := by
  refine ⟨o, hi, ?_⟩
  unfold ActW
  rw [if_pos (by simp [Region.wanted, hgd]), exec_copy ho hr]
  exact ⟨fun _ => hC, h⟩
theorem wpList_copy_run {w w' : World} {ops : Array Oper} {rest : List Oper} {o : Oper} {a : Act} {Q : Exit → Act → World → Prop} (hgd : o.guard = none) (s x : Operand) (t : TypeId)
    (ho : o.op = .call { callee := .builtin .copy, args := #[s, x], argTypes := #[t, t] }) {v' : Value} (hr : (Builtin.copy_ #[t, t] o.type #[a.eval s, a.eval x]).run Try.prog w = .ok v' w')
    (h : wpList Try.prog ops Q rest (a.put o.dst v') w') : wpList Try.prog ops Q (o :: rest) a w := by
  refine wpList_plain hgd fun K' hK' => ?_
  unfold Oper.wp
  rw [exec_copy ho hr]
  exact hK' _ _ h
theorem Cs.put_at {w : World} {g off cap : Nat} {l cur : List Cl} {i : Nat} (h : Cs w g off cap cur) (hi : i ≤ cur.length) (c : Cl) (h2 : i + 1 ≤ cap) (ht : cur.take i = l.take i) (hd : cur.drop (i + 1) = l.drop i) : Cs (w.setCells g (off + i * 2) (cl1 c)) g off cap (l.take i ++ [c] ++ l.drop i) := by
  have := h.put hi [c] (by simpa using h2)
  rw [cls2_one, List.length_singleton, ht, hd] at this
  exact this
/-- A claim put in at place i. -/
def insC (l : List Cl) (i : Nat) (c : Cl) : List Cl := l.take i ++ [c] ++ l.drop i
theorem insC_length (l : List Cl) (i : Nat) (c : Cl) : (insC l i c).length = l.length + 1 := by simp [insC]; omega
theorem insC_wf {l : List Cl} {i : Nat} {c : Cl} (h : wfC l) (hc : (Lit.int .i64 c.1).wf = true ∧ (Lit.int .i64 c.2).wf = true) : wfC (insC l i c) := fun x hx => by
  simp only [insC, List.mem_append, List.mem_singleton] at hx
  rcases hx with (h1 | rfl) | h1
  · exact h x (List.mem_of_mem_take h1)
  · exact hc
  · exact h x (List.mem_of_mem_drop h1)
theorem insC_end (l : List Cl) (c : Cl) : insC l l.length c = l ++ [c] := by simp [insC]
theorem over_no {w : World} {vb g : Nat} {c : Cl} (h : Sgl w vb c) {off cap : Nat} {l : List Cl} (hcs : Cs w g off cap l) (hne : vb ≠ g) (hcap : 0 < cap) (o lb cb vc : Nat) :
    (callFunc 104 #[.slice (some ⟨vb, 0, none⟩) 1 vc, .slice (some ⟨g, o, none⟩) lb cb]).run Try.prog w = .ok (.value (.bool false)) w := by
  obtain ⟨tA, hsa⟩ := h.shape
  obtain ⟨tB, kB, hsb, hkB⟩ := hcs.shape hcap
  obtain ⟨i0, hi0, hz0, hz1, hz2⟩ := infoCl
  rw [run_callFunc_extern Try.func104 (by kernel_rfl) (by kernel_rfl) (by kernel_rfl) (e := Extern.SlicesOverlaps.overlaps #[55, 55] #[4]) (by kernel_rfl),
    Lib.run_overlaps_apart w 55 4 61 Try.underlying55 2 (fun w => by simp [sizeOf, typeInfo, hi0, hz1]) ⟨vb, 0, none⟩ ⟨g, o, none⟩ 1 vc lb cb hne tA tB 2 kB hsa hsb hkB h.head h.tail]
  rfl
set_option maxHeartbeats 2000000 in
set_option maxRecDepth 100000 in
theorem Insert_last (w : World) (v : Value) (l : List Cl) (h : RC w v l) (vb vc : Nat) (c : Cl) (hs : Sgl w vb c) (hn : l.length ≤ 900) :
    Calls Try.prog 98 #[v, .int .i64 (l.length : Int), .slice (some ⟨vb, 0, none⟩) 1 vc] w fun e w' => ∃ v', e = .returned v' ∧ RC w' v' (insC l l.length c) ∧ App w w' v v' := by
  obtain ⟨v', w2, hr, hrow, hm⟩ := appC h (c := vc) hs.is (by omega) 55
  rw [← insC_end] at hrow
  have Hr := Lib.hid hr
  have Hrow := Lib.hid hrow
  have Hm := Lib.hid hm
  clear hr hrow hm hs
  rcases h.is with ⟨rfl, rfl⟩ | ⟨g, off, cap, rfl, hcs⟩
  · clear h
    go_enter Try.func98, Try.ntmps98
    go_wp2_with (at_builtin; refine wpList_append_run rfl (.tmp 23) (.tmp 24) 55 rfl Hr.out ?_)
    go_ret
    exact ⟨v', rfl, Hrow.out, Hm.out⟩
  · have hcc := hcs.len
    have hmc := hcs.max
    unfold maxLen at hmc
    clear h hcs
    by_cases hcn : cap = l.length
    all_goals
      try subst hcn
      go_enter Try.func98, Try.ntmps98
      go_wp2_with (at_builtin; refine wpList_append_run rfl (.tmp 23) (.tmp 24) 55 rfl Hr.out ?_)
      go_ret
      exact ⟨v', rfl, Hrow.out, Hm.out⟩
set_option maxHeartbeats 2000000 in
set_option maxRecDepth 100000 in
theorem Insert_room (w : World) (g off cap : Nat) (l : List Cl) (wf : wfC l) (hcs : Cs w g off cap l) (i : Nat) (hi : i < l.length) (hroom : l.length + 1 ≤ cap) (vb vc : Nat) (c : Cl) (hs : Sgl w vb c) (hne : vb ≠ g) :
    Calls Try.prog 98 #[.slice (some ⟨g, off, none⟩) l.length cap, .int .i64 (i : Int), .slice (some ⟨vb, 0, none⟩) 1 vc] w fun e w' => ∃ v', e = .returned v' ∧ RC w' v' (insC l i c) ∧ App w w' (.slice (some ⟨g, off, none⟩) l.length cap) v' := by
  have hmc := hcs.max
  unfold maxLen at hmc
  obtain ⟨n, Hn⟩ : ∃ n, Hid (l.length = n) := ⟨_, Lib.hid rfl⟩
  rw [Hn.out] at hi hroom ⊢
  have hov := fun lb cb => over_no hs hcs hne (show 0 < cap by omega) (off + (i + 1) * 2) lb cb vc
  have hdl : (l.drop i).length = n - i := by rw [List.length_drop, Hn.out]
  have hcsd := hcs.later ((Mod.refl (fun _ => False) w).drew) id
  have hput := hcsd.put (k := i + 1) (by have := Hn.out; omega) (l.drop i) (by rw [hdl]; omega)
  obtain ⟨W1, hW1⟩ : ∃ W1, w.drew.setCells g (off + (i + 1) * 2) (cls2 (l.drop i)) = W1 := ⟨_, rfl⟩
  have hcp1 : ∀ ty dc sc, (Builtin.copy_ #[55, 55] ty #[.slice (some ⟨g, off + (i + 1) * 2, none⟩) (n - i) dc, .slice (some ⟨g, off + i * 2, none⟩) (n + 1 - i) sc]).run Try.prog w.drew = .ok (goInt (n - i : Nat)) W1 := fun ty dc sc => by
    rw [← hW1]
    refine run_copy2 w.drew ty g (off + (i + 1) * 2) (n - i) dc ⟨g, off + i * 2, none⟩ (n + 1 - i) sc (n - i) (cls2 (l.drop i)) (by simp only [Nat.min_def]; split <;> omega) (by rw [cls2_length, hdl]) (fun j u hu => ?_) (fun j hj => ?_) (fun j hj => ?_) (cls2_cells _)
    · have hj := (List.getElem?_eq_some_iff.1 hu).1
      rw [cls2_length, hdl] at hj
      obtain ⟨x, hx⟩ : ∃ x, (l.drop i)[j / 2]? = some x := ⟨_, List.getElem?_eq_getElem (by omega)⟩
      obtain ⟨a, b⟩ := cls2_get _ _ _ hx
      rw [List.getElem?_drop] at hx
      obtain ⟨c0, c1⟩ := hcsd.cells _ _ hx
      rw [add_plain]
      rcases Nat.mod_two_eq_zero_or_one j with h2 | h2
      · rw [show j / 2 * 2 = j by omega] at a
        rw [show off + (i + j / 2) * 2 = off + i * 2 + j by omega] at c0
        rw [a] at hu
        rw [c0, ← hu]
      · rw [show j / 2 * 2 + 1 = j by omega] at b
        rw [show off + (i + j / 2) * 2 + 1 = off + i * 2 + j by omega] at c1
        rw [b] at hu
        rw [c1, ← hu]
    · rw [cls2_length, hdl] at hj
      rw [Nat.add_assoc]; exact hcsd.there _ (by omega)
    · rw [cls2_length, hdl] at hj
      rw [Nat.add_assoc]; exact hcsd.free _ (by omega)
  rw [hW1] at hput
  have HM1 : Hid (Mod (· = g) w W1) := Lib.hid (by rw [← hW1]; exact ((Mod.refl _ w).drew).trans (cells_mod g _ _ _))
  have e3 : l.drop (i + 1 + (l.drop i).length) = [] := List.drop_eq_nil_of_le (by rw [hdl, Hn.out]; omega)
  have hln := Hn.out
  rw [e3, List.append_nil] at hput
  have hlen : (l.take (i + 1) ++ l.drop i).length = n + 1 := by rw [List.length_append, List.length_take, hdl]; omega
  have hput2 := hput.put_at (l := l) (i := i) (by omega) c (by omega) (by rw [List.take_append_of_le_length (by rw [List.length_take]; omega), List.take_take, Nat.min_eq_left (by omega)])
    (by rw [List.drop_append_of_le_length (by rw [List.length_take]; omega), List.drop_eq_nil_of_le (by rw [List.length_take]; omega), List.nil_append])
  have hs1 := hs
  have hcp2 : ∀ ty dc, (Builtin.copy_ #[55, 55] ty #[.slice (some ⟨g, off + i * 2, none⟩) (n + 1 - i) dc, .slice (some ⟨vb, 0, none⟩) 1 vc]).run Try.prog W1 = .ok (goInt (1 : Nat)) (W1.setCells g (off + i * 2) (cl1 c)) := fun ty dc => by
    refine run_copy2 W1 ty g (off + i * 2) (n + 1 - i) dc ⟨vb, 0, none⟩ 1 vc 1 (cl1 c) (by simp only [Nat.min_def]; split <;> omega) rfl (fun j u hu => ?_) (fun j hj => ?_) (fun j hj => ?_) (cl1_one c)
    · have hvb := lt_of_cell hs1.node
      rw [add_plain, HM1.out.cell (p := ⟨vb, 0 + j, none⟩) hvb hne]
      match j, hu with
      | 0, hu => simp [cl1] at hu; subst hu; exact hs1.node
      | 1, hu => simp [cl1] at hu; subst hu; exact hs1.mode
      | j + 2, hu => simp [cl1] at hu
    · have : j < 2 := hj
      rw [Nat.add_assoc]; exact hput.there _ (by omega)
    · have : j < 2 := hj
      rw [Nat.add_assoc]; exact hput.free _ (by omega)
  have HP := Lib.hid hput2
  have HM2 : Hid (Mod (· = g) w (W1.setCells g (off + i * 2) (cl1 c))) := Lib.hid (HM1.out.trans (cells_mod g _ _ _))
  have Hw := Lib.hid (insC_wf (i := i) wf hs.wf)
  have Hl : Hid ((insC l i c).length = n + 1) := Lib.hid (by rw [insC_length, Hn.out])
  have hb2 : ¬ (cap = i + 1) := by omega
  have hw1 : IntKind.i64.wrap ((i : Int) + 1) = (i : Int) + 1 := by rw [IntKind.wrap_i64]; omega
  have hb1 : (0 : Int) ≤ (i : Int) + 1 := by omega
  have htn : ((i : Int) + 1).toNat = i + 1 := by omega
  have hb3 : (i : Int) ≤ (n : Int) := by omega
  have hb5 : (i : Int) ≤ (n : Int) + 1 := by omega
  have hb4 : ¬ (cap = i) := by omega
  have hi1 : ¬ ((i : Int) = (n : Int)) := by omega
  have hc1 : ¬ ((cap : Int) < (n : Int) + 1) := by omega
  clear hput hput2 hcs hcsd hs hs1 hlen hW1 hdl
  go_enter Try.func98, Try.ntmps98
  go_wp2_with fail
  refine wp_region_mix (by kernel_rfl) (Cls (Mdv w g)) [(0, 0), (1, 0), (2, 0), (3, 0), (4, 0), (5, 0), (6, 0), (7, 0), (8, 1)] (by kernel_rfl) (cls (Mod.refl _ w).drew) ?_
  repeat (refine mix0 rfl (fun K hK => ?_); go_simp; refine hK _ ?_; clear hK K)
  refine mix_copy (v' := goInt (n - i : Nat)) (w' := W1) rfl rfl (.tmp 73) (.tmp 76) 55 rfl ?hr (cls HM1.out) ?_
  case hr => exact hcp1 _ _ _
  refine mixEnd ?_
  go_wp2_with (at_builtin; refine wpList_copy_run (v' := goInt (1 : Nat)) (w' := W1.setCells g (off + i * 2) (cl1 c)) rfl (.tmp 80) (.tmp 81) 55 rfl (by exact hcp2 _ _) ?_)
  go_ret
  refine ⟨.slice (some ⟨g, off, none⟩) (n + 1) cap, rfl, ⟨Hw.out, .inr ⟨g, off, cap, by rw [Hl.out], HP.out⟩⟩, HM2.out.mono (fun q _ hq => by simp [blk, hq]), .inl rfl⟩
theorem zer_cls (k : Nat) : zer k = cls2 (List.replicate k (0, 0)) := by
  refine List.ext_getElem (by rw [zer_length, cls2_length, List.length_replicate]) (fun j h1 h2 => ?_)
  rw [zer_length] at h1
  have hk : (List.replicate k ((0, 0) : Cl))[j / 2]? = some (0, 0) := by rw [List.getElem?_eq_getElem (by rw [List.length_replicate]; omega), List.getElem_replicate]
  obtain ⟨a, b⟩ := cls2_get _ _ _ hk
  have e : (cls2 (List.replicate k (0, 0)))[j] = .int .i64 0 := by
    have h3 := List.getElem?_eq_getElem h2
    rcases Nat.mod_two_eq_zero_or_one j with h | h
    · rw [show j / 2 * 2 = j by omega, h3] at a; exact Option.some.inj a
    · rw [show j / 2 * 2 + 1 = j by omega, h3] at b; exact Option.some.inj b
  rw [e]
  simp only [zer, Builtin.zeroCells]
  rcases Nat.mod_two_eq_zero_or_one j with h | h <;> simp [h]
theorem Cs.new (w : World) (xs : List Cl) (cap : Nat) (h : xs.length ≤ cap) (hm : cap ≤ maxLen) (ys : List Cl) (hy : xs.length + ys.length = cap) : Cs (w.alloc (.cells (cls2 (xs ++ ys)).toArray 61)) w.heap.size 0 cap xs := by
  have hc : ∀ j, (w.alloc (.cells (cls2 (xs ++ ys)).toArray 61)).cell? ⟨w.heap.size, j, none⟩ = (cls2 (xs ++ ys))[j]? := fun j => by rw [World.cell?_alloc_at (w := w) _ _ w.heap.size j rfl]; simp
  refine ⟨by simp, h, hm, fun i c hi => ?_, fun j hj => ?_, fun j _ => World.frozen?_alloc_at (w := w) _ _ w.heap.size _ rfl⟩
  · have hi2 : (xs ++ ys)[i]? = some c := by rw [List.getElem?_append_left (List.getElem?_eq_some_iff.1 hi).1]; exact hi
    obtain ⟨a, b⟩ := cls2_get _ _ _ hi2
    rw [Nat.zero_add, hc, hc]
    exact ⟨a, b⟩
  · rw [hc, List.getElem?_eq_getElem (by rw [cls2_length, List.length_append]; omega)]
    rfl
theorem zerA (k : Nat) : Builtin.zeroCells #[.int .i64 0, .int .i64 0] k = (cls2 (List.replicate k (0, 0))).toArray := by
  rw [← zer_cls]; simp [zer]
set_option maxHeartbeats 4000000 in
set_option maxRecDepth 100000 in
theorem Insert_grow (w : World) (g off : Nat) (l : List Cl) (wf : wfC l) (hcs : Cs w g off l.length l) (i : Nat) (hi : i < l.length) (vb vc : Nat) (c : Cl) (hs : Sgl w vb c) (hn : l.length ≤ 900) :
    Calls Try.prog 98 #[.slice (some ⟨g, off, none⟩) l.length l.length, .int .i64 (i : Int), .slice (some ⟨vb, 0, none⟩) 1 vc] w fun e w' => ∃ v', e = .returned v' ∧ RC w' v' (insC l i c) ∧ App w w' (.slice (some ⟨g, off, none⟩) l.length l.length) v' := by
  obtain ⟨i0, hi0, hz0, hz1, hz2⟩ := infoCl
  obtain ⟨n, Hn⟩ : ∃ n, Hid (l.length = n) := ⟨_, Lib.hid rfl⟩
  have hln := Hn.out
  have htl : (l.take i).length = i := by rw [List.length_take]; omega
  have hdl : (l.drop i).length = n - i := by rw [List.length_drop, Hn.out]
  rw [Hn.out] at hi hcs hn ⊢
  have hgl := hcs.lt
  have hold : (Builtin.firstCells i0.size i (.slice (some ⟨g, off, none⟩) i n)).run Try.prog w.drew = .ok (cls2 (l.take i)).toArray w.drew := by
    rw [hz1]
    refine run_firstCells_some w.drew 2 i ⟨g, off, none⟩ i n (cls2 (l.take i)) (by rw [cls2_length, htl]) (fun j u hu => ?_)
    have hj := (List.getElem?_eq_some_iff.1 hu).1
    rw [cls2_length, htl] at hj
    obtain ⟨x, hx⟩ : ∃ x, (l.take i)[j / 2]? = some x := ⟨_, List.getElem?_eq_getElem (by omega)⟩
    obtain ⟨a, b⟩ := cls2_get _ _ _ hx
    rw [List.getElem?_take, if_pos (by omega)] at hx
    obtain ⟨c0, c1⟩ := hcs.cells _ _ hx
    rw [add_plain]
    rcases Nat.mod_two_eq_zero_or_one j with h2 | h2
    · rw [show j / 2 * 2 = j by omega] at a c0
      rw [a] at hu
      rw [← hu]; exact c0
    · rw [show j / 2 * 2 + 1 = j by omega] at b
      rw [show off + j / 2 * 2 + 1 = off + j by omega] at c1
      rw [b] at hu
      rw [← hu]; exact c1
  obtain ⟨G, hG⟩ : ∃ G, grownCap w (n + 1) n 61 = G := ⟨_, rfl⟩
  have hGn : n + 1 ≤ G := by rw [← hG]; exact grownCap_ge w _ _ _
  have hGm : G ≤ maxLen := by rw [← hG]; exact grownCap_le_maxLen w _ _ _ (by unfold maxLen; omega)
  obtain ⟨W1, hW1⟩ : ∃ W1, w.drew.alloc (.cells (cls2 ((l.take i ++ List.replicate (n + 1 - i) (0, 0)) ++ List.replicate (G - (n + 1)) (0, 0))).toArray 61) = W1 := ⟨_, rfl⟩
  have hrz : ∀ ty, (Builtin.append_ #[55, 3] ty #[.slice (some ⟨g, off, none⟩) i n, .int .i64 ((n : Int) + 1 - (i : Int))]).run Try.prog w = .ok (.slice (some ⟨w.heap.size, 0, none⟩) (n + 1) G) W1 := fun ty => by
    have h := Lib.run_append_grow_zeros (P := Try.prog) w 55 3 ty 61 i0 _ .i64 .i64 Try.underlying55 Try.underlying3 hi0 hz0 (some ⟨g, off, none⟩) i n (cls2 (l.take i)) hold (n + 1 - i) (by omega) (by rw [hz1]; decide) (by omega) (by omega) (by rw [hz2]; omega) (by rw [hz2, show i + (n + 1 - i) = n + 1 by omega]; exact growslice_fits (by omega) (by omega))
    rw [show i + (n + 1 - i) = n + 1 by omega, show ((n + 1 - i : Nat) : Int) = (n : Int) + 1 - (i : Int) by omega, hG] at h
    rw [h, ← hW1, cls2_append, cls2_append, show (Value.agg #[.int .i64 0, .int .i64 0]).cells = #[.int .i64 0, .int .i64 0] from rfl, zerA, zerA]
    simp
  have hc1 : Cs W1 w.heap.size 0 G (l.take i ++ List.replicate (n + 1 - i) (0, 0)) := by
    rw [← hW1]
    exact Cs.new w.drew _ G (by rw [List.length_append, htl, List.length_replicate]; omega) hGm _ (by rw [List.length_append, htl, List.length_replicate, List.length_replicate]; omega)
  have hB1 : Below w.heap.size w W1 := by rw [← hW1]; exact balloc (Below.refl _ _).drew _
  have hvb := lt_of_cell hs.node
  obtain ⟨W2, hW2⟩ : ∃ W2, W1.setCells w.heap.size (i * 2) (cl1 c) = W2 := ⟨_, rfl⟩
  have hcp1 : ∀ ty dc, (Builtin.copy_ #[55, 55] ty #[.slice (some ⟨w.heap.size, i * 2, none⟩) (n + 1 - i) dc, .slice (some ⟨vb, 0, none⟩) 1 vc]).run Try.prog W1 = .ok (goInt (1 : Nat)) W2 := fun ty dc => by
    rw [← hW2]
    refine run_copy2 W1 ty w.heap.size (i * 2) (n + 1 - i) dc ⟨vb, 0, none⟩ 1 vc 1 (cl1 c) (by simp only [Nat.min_def]; split <;> omega) rfl (fun j u hu => ?_) (fun j hj => ?_) (fun j hj => ?_) (cl1_one c)
    · rw [add_plain, hB1.cell (p := ⟨vb, 0 + j, none⟩) hvb]
      match j, hu with
      | 0, hu => simp [cl1] at hu; subst hu; exact hs.node
      | 1, hu => simp [cl1] at hu; subst hu; exact hs.mode
      | j + 2, hu => simp [cl1] at hu
    · have : j < 2 := hj
      have := hc1.there (i * 2 + j) (by omega)
      rwa [Nat.zero_add] at this
    · have : j < 2 := hj
      have := hc1.free (i * 2 + j) (by omega)
      rwa [Nat.zero_add] at this
  have hc2 : Cs W2.drew w.heap.size 0 G (l.take i ++ [c] ++ List.replicate (n - i) (0, 0)) := by
    have h := hc1.put (k := i) (by rw [List.length_append, htl]; omega) [c] (by simp; omega)
    rw [Nat.zero_add, cls2_one, hW2, List.take_append_of_le_length (by omega), List.take_of_length_le (by omega), List.drop_append, htl, List.drop_eq_nil_of_le (by rw [htl]; simp), List.nil_append, List.drop_replicate] at h
    have e : n + 1 - i - (i + [c].length - i) = n - i := by simp; omega
    rw [e] at h
    exact h.later ((Mod.refl (fun _ => False) W2).drew) id
  have hB2 : Below w.heap.size w W2 := by rw [← hW2]; exact bmod hB1 (cells_mod _ _ _ _) (Nat.le_refl _)
  obtain ⟨W3, hW3⟩ : ∃ W3, W2.drew.setCells w.heap.size ((i + 1) * 2) (cls2 (l.drop i)) = W3 := ⟨_, rfl⟩
  have hcp2 : ∀ ty dc sc, (Builtin.copy_ #[55, 55] ty #[.slice (some ⟨w.heap.size, (i + 1) * 2, none⟩) (n - i) dc, .slice (some ⟨g, off + i * 2, none⟩) (n - i) sc]).run Try.prog W2.drew = .ok (goInt (n - i : Nat)) W3 := fun ty dc sc => by
    rw [← hW3]
    refine run_copy2 W2.drew ty w.heap.size ((i + 1) * 2) (n - i) dc ⟨g, off + i * 2, none⟩ (n - i) sc (n - i) (cls2 (l.drop i)) (by simp) (by rw [cls2_length, hdl]) (fun j u hu => ?_) (fun j hj => ?_) (fun j hj => ?_) (cls2_cells _)
    · have hj := (List.getElem?_eq_some_iff.1 hu).1
      rw [cls2_length, hdl] at hj
      obtain ⟨x, hx⟩ : ∃ x, (l.drop i)[j / 2]? = some x := ⟨_, List.getElem?_eq_getElem (by omega)⟩
      obtain ⟨a, b⟩ := cls2_get _ _ _ hx
      rw [List.getElem?_drop] at hx
      obtain ⟨c0, c1⟩ := hcs.cells _ _ hx
      rw [add_plain, (hB2.drew).cell (p := ⟨g, off + i * 2 + j, none⟩) hgl]
      rcases Nat.mod_two_eq_zero_or_one j with h2 | h2
      · rw [show j / 2 * 2 = j by omega] at a
        rw [show off + (i + j / 2) * 2 = off + i * 2 + j by omega] at c0
        rw [a] at hu
        rw [c0, ← hu]
      · rw [show j / 2 * 2 + 1 = j by omega] at b
        rw [show off + (i + j / 2) * 2 + 1 = off + i * 2 + j by omega] at c1
        rw [b] at hu
        rw [c1, ← hu]
    · rw [cls2_length, hdl] at hj
      have := hc2.there ((i + 1) * 2 + j) (by omega)
      rwa [Nat.zero_add] at this
    · rw [cls2_length, hdl] at hj
      have := hc2.free ((i + 1) * 2 + j) (by omega)
      rwa [Nat.zero_add] at this
  have hc3 : Cs W3 w.heap.size 0 G (insC l i c) := by
    have h := hc2.put (k := i + 1) (by simp; omega) (l.drop i) (by omega)
    rw [Nat.zero_add, hW3] at h
    have e1 : (l.take i ++ [c] ++ List.replicate (n - i) (0, 0)).take (i + 1) = l.take i ++ [c] := by
      rw [List.take_append_of_le_length (by simp; omega), List.take_of_length_le (by simp; omega)]
    have e2 : (l.take i ++ [c] ++ List.replicate (n - i) (0, 0)).drop (i + 1 + (l.drop i).length) = [] := List.drop_eq_nil_of_le (by simp; omega)
    rw [e1, e2, List.append_nil] at h
    exact h
  have HC3 := Lib.hid hc3
  have HB2 : Hid (Abv w W2.drew) := Lib.hid hB2.drew
  have HB3 : Hid (Abv w W3) := Lib.hid (by rw [← hW3]; exact bmod hB2.drew (cells_mod _ _ _ _) (Nat.le_refl _))
  have Hw := Lib.hid (insC_wf (i := i) wf hs.wf)
  have Hl : Hid ((insC l i c).length = n + 1) := Lib.hid (by rw [insC_length, Hn.out])
  have hb2 : ¬ (G = i + 1) := by omega
  have hb4 : ¬ (G = i) := by omega
  have hb6 : ¬ (n = i) := by omega
  have hw1 : IntKind.i64.wrap ((i : Int) + 1) = (i : Int) + 1 := by rw [IntKind.wrap_i64]; omega
  have hb1 : (0 : Int) ≤ (i : Int) + 1 := by omega
  have htn : ((i : Int) + 1).toNat = i + 1 := by omega
  have hb3 : (i : Int) ≤ (n : Int) := by omega
  have hb5 : (i : Int) ≤ (n : Int) + 1 := by omega
  have hi1 : ¬ ((i : Int) = (n : Int)) := by omega
  unfold maxLen at hGm
  clear hc1 hc2 hc3 hB1 hB2 hW1 hW2 hW3 hcs hs hdl htl hold hi0 hz0 hz1 hz2 hln hvb
  go_enter Try.func98, Try.ntmps98
  go_wp2_with (at_builtin; refine Lib.wpList_append_run _ rfl (.tmp 34) (.tmp 39) 55 3 rfl _ _ rfl rfl _ _ (hrz _) ?_)
  refine wp_region_mix (by kernel_rfl) (Cls (Abv w)) [(0, 0), (1, 0), (2, 0), (3, 0), (4, 0), (5, 0), (6, 0), (7, 0), (8, 1)] (by kernel_rfl) (cls HB2.out) ?_
  repeat (refine mix0 rfl (fun K hK => ?_); go_simp; refine hK _ ?_; clear hK K)
  refine mix_copy (v' := goInt (n - i : Nat)) (w' := W3) rfl rfl (.tmp 50) (.tmp 53) 55 rfl ?hr (cls HB3.out) ?_
  case hr => exact hcp2 _ _ _
  refine mixEnd ?_
  go_wp2
  go_ret
  refine ⟨.slice (some ⟨w.heap.size, 0, none⟩) (n + 1) G, rfl, ⟨Hw.out, .inr ⟨w.heap.size, 0, G, by rw [Hl.out], HC3.out⟩⟩, Mod.of_below HB3.out, .inr ⟨w.heap.size, rfl, Nat.le_refl _⟩⟩
set_option maxRecDepth 100000 in
theorem Insert_any (w : World) (v : Value) (l : List Cl) (h : RC w v l) (i : Nat) (hi : i ≤ l.length) (vb vc : Nat) (c : Cl) (hs : Sgl w vb c) (hne : blk v ≠ some vb) (hn : l.length ≤ 900) :
    Calls Try.prog 98 #[v, .int .i64 (i : Int), .slice (some ⟨vb, 0, none⟩) 1 vc] w fun e w' => ∃ v', e = .returned v' ∧ RC w' v' (insC l i c) ∧ App w w' v v' := by
  rcases Nat.lt_or_ge i l.length with h1 | h1
  · rcases h.is with ⟨rfl, rfl⟩ | ⟨g, off, cap, rfl, hcs⟩
    · simp at h1
    · have hg : vb ≠ g := fun e => hne (by simp [blk, e])
      have hcc := hcs.len
      rcases Nat.lt_or_ge l.length cap with h2 | h2
      · exact Insert_room w g off cap l h.wf hcs i h1 h2 vb vc c hs hg
      · obtain rfl : cap = l.length := by omega
        exact Insert_grow w g off l h.wf hcs i h1 vb vc c hs hn
  · obtain rfl : i = l.length := by omega
    exact Insert_last w v l h vb vc c hs hn
end Go.Proofs.Ythpmodohfjjjcaa
