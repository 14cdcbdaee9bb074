/- A file's bytes are changed: bytes 0 laid, those that it had copied, a closure's put; then the thing is set. -/
import Derived.Test.YtiomhdanmcnaeaaGreatDoorUb16
import Derived.Test.YtiomhdanmcnaeaaGreatDoorByt
import Derived.Lib.LazyBuf
namespace Go.Proofs.YtiomhdanmcnaeaaGreatDoor
open Go.RowKit

def u8V (l : List UInt8) : List Value := l.map fun x => Value.int .u8 (x.toNat : Int)
theorem u8V_len (l : List UInt8) : (u8V l).length = l.length := by simp [u8V]
theorem wpList_copy2_run {w w' : World} {ops : Array Oper} {rest : List Oper} {o : Oper} {a : Act} {Q : Exit → Act → World → Prop} (hgd : o.guard = none) (s x : Operand) (t t2 : TypeId)
    (ho : o.op = .call { callee := .builtin .copy, args := #[s, x], argTypes := #[t, t2] }) {v' : Value} (hr : (Builtin.copy_ #[t, t2] o.type #[a.eval s, a.eval x]).run Tryz.prog w = .ok v' w')
    (h : wpList Tryz.prog ops Q rest (a.put o.dst v') w') : wpList Tryz.prog ops Q (o :: rest) a w := by
  refine wpList_plain hgd fun K' hK' => ?_
  unfold Oper.wp
  have e : (execOp a.eval o).run Tryz.prog w = .ok (.value v') w' := by
    unfold execOp
    simp only [ho, resolve, invoke, builtin, Sem.run_bind, Sem.run_pure, Result.andThen_ok, List.map_toArray, List.map_cons, List.map_nil, hr]
  rw [e]
  exact hK' _ _ h
theorem sz8 : ∀ w, (Go.sizeOf 5).run Tryz.prog w = .ok 1 w := fun w => by kernel_rfl
/-- A text copied over bytes of a call's own, as far as there is room. -/
theorem copy_str {w : World} {g : Nat} {l : List UInt8} (h : Bytes w g l) (o : Nat) (s : List UInt8) (dLen dCap k : Nat) (hk : min s.length dLen = k) (hl : o + k ≤ l.length) (ty : TypeId) :
    (Builtin.copy_ #[33, 9] ty #[.slice (some ⟨g, o, none⟩) dLen dCap, .string (str s)]).run Tryz.prog w = .ok (goInt k) (w.setCells g o (u8V (s.take k))) := by
  have hlen : (u8V (s.take k)).length = k := by rw [u8V_len, List.length_take]; omega
  have hst := run_storeCells_cells (P := Tryz.prog) g o (u8V (s.take k)) 0 w (fun j hj => by rw [hlen] at hj; rw [Nat.add_zero, h.cell (o + j) (by omega)]; rfl) (fun j hj => by rw [hlen] at hj; rw [Nat.add_zero]; exact h.free (o + j) (by omega)) (by
    intro v hv
    obtain ⟨x, _, rfl⟩ := List.mem_map.1 hv
    rfl)
  have hmin : Nat.min (str s).size dLen = k := by rw [str_size]; exact hk
  have he : (List.map (fun x : UInt8 => Value.int .u8 (x.toNat : Int)) (str s).data.toList).take k = u8V (s.take k) := by
    rw [← List.map_take, u8V]
    rw [show (str s).data.toList = s from by rw [str_data]]
  simp [Builtin.copy_, run_underlying Tryz.underlying33, Builtin.lenOf, Builtin.firstCells, hmin]
  rw [he, hst]
  rfl
theorem setCells_modT (g : Nat) : ∀ (vs : List Value) (o : Nat) (w : World), Mod (· = g) w (w.setCells g o vs)
  | [], _, w => Mod.refl _ w
  | v :: r, o, w => ((Mod.refl _ w).set1 (o := o) v).trans (setCells_modT g r (o + 1) _)
theorem Bytes.over {g : Nat} : ∀ (t : List UInt8) {w : World} {l : List UInt8} (_ : Bytes w g l) (o : Nat) (_ : o + t.length ≤ l.length), Bytes (w.setCells g o (u8V t)) g (l.take o ++ t ++ l.drop (o + t.length))
  | [], w, l, h, o, ho => by
    show Bytes w g _
    simpa using h
  | x :: t, w, l, h, o, ho => by
    have ho' : o + 1 + t.length ≤ l.length := by simp at ho; omega
    have h1 := Bytes.over t (h.set o x) (o + 1) (by rw [List.length_set]; exact ho')
    have e : (l.set o x).take (o + 1) ++ t ++ (l.set o x).drop (o + 1 + t.length) = l.take o ++ (x :: t) ++ l.drop (o + (x :: t).length) := by
      have e1 : (l.set o x).take (o + 1) = l.take o ++ [x] := by
        rw [List.take_succ_eq_append_getElem (by rw [List.length_set]; omega), List.take_set, List.set_eq_of_length_le (by rw [List.length_take]; omega), List.getElem_set_self]
      have e2 : (l.set o x).drop (o + 1 + t.length) = l.drop (o + (x :: t).length) := by
        rw [List.drop_set_of_lt (by omega), List.length_cons]
        congr 1
        omega
      rw [e1, e2]
      simp
    rw [e] at h1
    exact h1
/-- Bytes made so many: cut, or with bytes 0 behind. -/
def sized (d : List UInt8) (n : Nat) : List UInt8 := d.take n ++ List.replicate (n - d.length) 0
theorem sized_len (d : List UInt8) (n : Nat) : (sized d n).length = n := by simp [sized]; omega
def Tr.changeE (T : Tr) (k : Int) (n : Nat) : Int := if T.kind k = 2 then 18 else if T.free < moreI (((T.th k).getD th0).2.2.length : Int) (n : Int) then 15 else 0
def Tr.changeT (T : Tr) (k : Int) (d : List UInt8) : Tr := T.setP k (((T.th k).getD th0).1, ((T.th k).getD th0).2.1, d)
theorem changeT_ok {T : Tr} {c : Nat} (h : TokC T c) (hc : c + 1 ≤ 1000000) {k : Int} {x : Thg} (hx : T.th k = some x) {d : List UInt8} (hd : d.length ≤ 6144) : TokC (T.changeT k d) (c + 1) := by
  have hg : (T.th k).getD th0 = x := by rw [hx]; rfl
  unfold Tr.changeT
  rw [hg]
  have ht := h.th k x hx
  exact h.set hc k (x.1, x.2.1, d) (fun _ => ⟨hd, ht.2.1, ht.2.2.1, ht.2.2.2⟩)
section
variable {w : World} {b n : Nat} {mt ml : Option Nat} {T : Tr}
set_option maxRecDepth 100000 in
set_option maxHeartbeats 8000000 in
theorem change_any {c : Nat} (h : IsT w b mt ml n T) (ht : TokC T c) (hc : c + 3 ≤ 1000000) (hn : n + 10 < 100000000) (th : Int) (hwf : (Lit.int .i64 th).wf = true) (x : Thg) (hg : (T.th th).getD th0 = x) (hx : T.kind th = 2 ∨ T.th th = some x) (sz : Nat) (hsz : sz ≤ 6144)
    (fid : FuncId) (capt : Array Value) (f : List UInt8 → List UInt8) (hf : ∀ l, l.length = sz → (f l).length = sz)
    (hcall : ∀ args u, (callFunc fid args).run Tryz.prog u = .ok (.enter fid args) u)
    (hcl : ∀ (u : World) (g : Nat) (l : List UInt8), l.length = sz → Bytes u g l → Below w.heap.size w u → w.heap.size ≤ g → Calls Tryz.prog fid (#[.slice (some ⟨g, 0, none⟩) sz sz] ++ capt) u fun e u' => e = .returned (.tuple #[]) ∧ Bytes u' g (f l) ∧ Mod (· = g) u u') :
    Calls Tryz.prog 58 #[.pointer (some ⟨b, 0, none⟩), .int .i64 th, .int .i64 (sz : Int), .func (.func fid) #[] capt] w fun e w' => e = .returned (repV (repE (T.changeE th sz))) ∧ ∃ mt', IsT w' b mt' ml (n + 2) (if T.changeE th sz = 0 then T.changeT th (f (sized x.2.2 sz)) else T) ∧ Turn w w' b mt ml mt' ml := by
  have H := Lib.hid h
  have Ht := Lib.hid ht
  have Hx := Lib.hid hg
  have Hxx := Lib.hid hx
  have Hf := Lib.hid hf
  have Hcl := Lib.hid hcl
  clear h ht hg hx hf hcl
  obtain ⟨E, HE⟩ : ∃ r, Hid (T.changeE th sz = r) := ⟨_, Lib.hid rfl⟩
  obtain ⟨T2, HT2⟩ : ∃ r, Hid ((if T.changeE th sz = 0 then T.changeT th (f (sized x.2.2 sz)) else T) = r) := ⟨_, Lib.hid rfl⟩
  obtain ⟨Kd, HK⟩ : ∃ r, Hid (T.kind th = r) := ⟨_, Lib.hid rfl⟩
  obtain ⟨M, HM⟩ : ∃ r, Hid (moreI (x.2.2.length : Int) (sz : Int) = r) := ⟨_, Lib.hid rfl⟩
  obtain ⟨F, HF⟩ : ∃ r, Hid (T.free = r) := ⟨_, Lib.hid rfl⟩
  have HE2 : Hid (E = if Kd = 2 then 18 else if F < M then 15 else 0) := Lib.hid (by rw [← HE.out, Tr.changeE, HK.out, Hx.out, HM.out, HF.out])
  rw [HT2.out, HE.out]
  go_enter Tryz.func58, Tryz.ntmps58
  go_upto_region 1 with (fail)
  obtain ⟨w1, Hw1⟩ : ∃ u, Hid (w.alloc (.cells rep0 29) = u) := ⟨_, Lib.hid rfl⟩
  obtain ⟨p, Hp⟩ : ∃ u, Hid (w.heap.size = u) := ⟨_, Lib.hid rfl⟩
  have R1 : Hid (BoxC w1 p rep0 29) := Lib.hid (by rw [← Hw1.out, ← Hp.out]; exact BoxC.new w _ _)
  have B1 : Hid (Below w.heap.size w w1) := Lib.hid (by rw [← Hw1.out]; exact balloc (Below.refl _ _) _)
  have H1 := Lib.hid (H.out.below B1.out)
  rw [Hw1.out, Hp.out]
  have c2 := H1.out.c2
  have hl : (Instr.lookup 38 (.map mt) (.int .i64 th) false).run Tryz.prog w1 = .ok (.agg #[.int .i64 x.1, .int .i64 x.2.1, .string (str x.2.2)]) w1 := by
    have h := H1.out.lookT hwf
    rw [Hx.out] at h
    exact h
  go_upto_region 2 with (fail)
  clear c2 hl
  obtain ⟨w2, Hw2⟩ : ∃ u, Hid (w1.alloc (.cells #[.int .i64 x.1, .int .i64 x.2.1, .string (str x.2.2)] 65) = u) := ⟨_, Lib.hid rfl⟩
  obtain ⟨a, Ha⟩ : ∃ u, Hid (w1.heap.size = u) := ⟨_, Lib.hid rfl⟩
  have A2 : Hid (BoxC w2 a #[.int .i64 x.1, .int .i64 x.2.1, .string (str x.2.2)] 65) := Lib.hid (by rw [← Hw2.out, ← Ha.out]; exact BoxC.new w1 _ _)
  have hb2 : Below w1.heap.size w1 w2 := by rw [← Hw2.out]; exact balloc (Below.refl _ _) _
  have B2 := Lib.hid (bnext B1.out hb2)
  have R2 := Lib.hid (R1.out.below hb2)
  have H2 := Lib.hid (H1.out.below hb2)
  have hpa : p ≠ a := by have := R1.out.lt; have := Ha.out; omega
  clear hb2
  rw [Hw2.out, Ha.out]
  go_wp2_with fail
  refine (kind_any H2.out th hwf).mono ?_
  rw [HK.out]
  rintro e w3 ⟨rfl, rfl⟩
  by_cases hkd : Kd = 2
  · have hq : (Kd == 2) = true := by simpa using hkd
    have he : E = 18 := by simpa [hkd] using HE2.out
    subst he
    have hT2 : T2 = T := by rw [← HT2.out, HE.out]; rfl
    subst hT2
    clear hkd
    have f0 := R2.out.free 0
    have f1 := R2.out.free 1
    have f2 := R2.out.free 2
    have f3 := R2.out.free 3
    have f4 := R2.out.free 4
    have f5 := R2.out.free 5
    have f6 := R2.out.free 6
    have z0 := R2.out.cell 0 rfl
    have z1 := R2.out.cell 1 rfl
    have z2 := R2.out.cell 2 rfl
    have z3 := R2.out.cell 3 rfl
    have z4 := R2.out.cell 4 rfl
    have z5 := R2.out.cell 5 rfl
    have z6 := R2.out.cell 6 rfl
    have RZ := Lib.hid (setR_box R2.out (repE 18))
    have HZ := Lib.hid ((H2.out.box Ht.out.ne (setR_mod w2 p (repE 18)) R2.out rep_no2 rep_nohe).more (show n ≤ n + 2 by omega))
    have TZ := Lib.hid (Turn.below b mt ml (bmod B2.out (setR_mod w2 p (repE 18)) (by have := Hp.out; omega)))
    go_wp2
    obtain ⟨wz, Hwz⟩ : ∃ u, Hid (setR w2 p (repE 18) = u) := ⟨_, Lib.hid rfl⟩
    rw [Hwz.out] at RZ HZ TZ
    rw [show ((((((w2.setCell ⟨p, 0, none⟩ (.int .i64 18)).setCell ⟨p, 1, none⟩ (.string (str []))).setCell ⟨p, 2, none⟩ (.slice none 0 0)).setCell ⟨p, 3, none⟩ (.int .i64 0)).setCell ⟨p, 4, none⟩ (.int .i64 0)).setCell ⟨p, 5, none⟩ (.int .i64 0)).setCell ⟨p, 6, none⟩ (.int .i64 0) = wz from Hwz.out]
    have s0 := RZ.out.cell 0 rfl
    have s1 := RZ.out.cell 1 rfl
    have s2 := RZ.out.cell 2 rfl
    have s3 := RZ.out.cell 3 rfl
    have s4 := RZ.out.cell 4 rfl
    have s5 := RZ.out.cell 5 rfl
    have s6 := RZ.out.cell 6 rfl
    exact bodyPost_ret (v := repV (repE 18)) (by simp [results, Tryz.results58, go_sem, s0, s1, s2, s3, s4, s5, s6]) rfl ⟨rfl, mt, HZ.out, TZ.out⟩
  · have hq : (Kd == 2) = false := by simpa using hkd
    have HKn : Hid (Kd ≠ 2) := Lib.hid hkd
    have Hxs : Hid (T.th th = some x) := Lib.hid (by
      rcases Hxx.out with h | h
      · exact absurd (HK.out.symm.trans h) hkd
      · exact h)
    have hxb := Ht.out.th th x Hxs.out
    go_upto_region 4 with (fail)
    have a2 : ∀ y : In (Abv w2), y.u.cell? ⟨a, 2, none⟩ = some (.string (str x.2.2)) := fun y => (A2.out.below y.is).cell 2 rfl
    have k0 : ∀ y : In (Abv w2), y.u.cell? ⟨b, 0, none⟩ = some (.int .i64 F) := fun y => by rw [← HF.out]; exact (H2.out.below y.is).c0
    refine wp_region_mix (by kernel_rfl) (Cls (Abv w2)) [(0, 0), (1, 0), (2, 0), (3, 0), (5, 0), (6, 0), (7, 0), (8, 0), (4, 1), (9, 0), (10, 0)] (by kernel_rfl) (cls (Below.refl _ _).drew) ?_
    repeat (refine mix0 rfl (fun K hK => ?_); go_simp; refine hK _ ?_; clear hK K)
    refine mix1 rfl (fun K hK => ?_)
    go_simp
    refine (more_any (x.2.2.length : Int) (sz : Int) (by omega) (by omega) _).mono ?_
    rw [HM.out]
    rintro e w3 ⟨rfl, rfl⟩
    refine ⟨_, rfl, hK _ _ (cls (Below.refl _ _).drew) ?_⟩
    clear hK K
    repeat (refine mix0 rfl (fun K hK => ?_); go_simp; refine hK _ ?_; clear hK K)
    refine mixEnd ?_
    clear a2 k0
    obtain ⟨w3, Hw3⟩ : ∃ u, Hid (w2.drew = u) := ⟨_, Lib.hid rfl⟩
    have hb3 : Below w2.heap.size w2 w3 := by rw [← Hw3.out]; exact (Below.refl _ _).drew
    have B3 := Lib.hid (bnext B2.out hb3)
    have R3 := Lib.hid (R2.out.below hb3)
    have A3 := Lib.hid (A2.out.below hb3)
    have H3 := Lib.hid (H2.out.below hb3)
    clear hb3
    rw [Hw3.out]
    by_cases hfm : F < M
    · have he : E = 15 := by simpa [HKn.out, hfm] using HE2.out
      subst he
      have hT2 : T2 = T := by rw [← HT2.out, HE.out]; rfl
      subst hT2
      clear hkd
      have f0 := R3.out.free 0
      have f1 := R3.out.free 1
      have f2 := R3.out.free 2
      have f3 := R3.out.free 3
      have f4 := R3.out.free 4
      have f5 := R3.out.free 5
      have f6 := R3.out.free 6
      have z0 := R3.out.cell 0 rfl
      have z1 := R3.out.cell 1 rfl
      have z2 := R3.out.cell 2 rfl
      have z3 := R3.out.cell 3 rfl
      have z4 := R3.out.cell 4 rfl
      have z5 := R3.out.cell 5 rfl
      have z6 := R3.out.cell 6 rfl
      have RZ := Lib.hid (setR_box R3.out (repE 15))
      have HZ := Lib.hid ((H3.out.box Ht.out.ne (setR_mod w3 p (repE 15)) R3.out rep_no2 rep_nohe).more (show n ≤ n + 2 by omega))
      have TZ := Lib.hid (Turn.below b mt ml (bmod B3.out (setR_mod w3 p (repE 15)) (by have := Hp.out; omega)))
      go_wp2
      obtain ⟨wz, Hwz⟩ : ∃ u, Hid (setR w3 p (repE 15) = u) := ⟨_, Lib.hid rfl⟩
      rw [Hwz.out] at RZ HZ TZ
      rw [show ((((((w3.setCell ⟨p, 0, none⟩ (.int .i64 15)).setCell ⟨p, 1, none⟩ (.string (str []))).setCell ⟨p, 2, none⟩ (.slice none 0 0)).setCell ⟨p, 3, none⟩ (.int .i64 0)).setCell ⟨p, 4, none⟩ (.int .i64 0)).setCell ⟨p, 5, none⟩ (.int .i64 0)).setCell ⟨p, 6, none⟩ (.int .i64 0) = wz from Hwz.out]
      have s0 := RZ.out.cell 0 rfl
      have s1 := RZ.out.cell 1 rfl
      have s2 := RZ.out.cell 2 rfl
      have s3 := RZ.out.cell 3 rfl
      have s4 := RZ.out.cell 4 rfl
      have s5 := RZ.out.cell 5 rfl
      have s6 := RZ.out.cell 6 rfl
      exact bodyPost_ret (v := repV (repE 15)) (by simp [results, Tryz.results58, go_sem, s0, s1, s2, s3, s4, s5, s6]) rfl ⟨rfl, mt, HZ.out, TZ.out⟩
    · have he : E = 0 := by simpa [HKn.out, hfm] using HE2.out
      subst he
      have hT2 : T2 = T.changeT th (f (sized x.2.2 sz)) := by rw [← HT2.out, HE.out, if_pos rfl]
      have C2 : Hid (TokC (T.changeT th (f (sized x.2.2 sz))) (c + 1)) := Lib.hid (changeT_ok Ht.out (by omega) Hxs.out (by rw [Hf.out _ (sized_len _ _)]; exact hsz))
      have Hnew : Hid (T.changeT th (f (sized x.2.2 sz)) = T.setP th (x.1, x.2.1, f (sized x.2.2 sz))) := Lib.hid (by rw [Tr.changeT, Hx.out])
      clear hkd
      have hmk := fun u => mkn u (sz : Int) (by omega) (by omega)
      rw [Int.toNat_natCast] at hmk
      go_upto_region 7 with (fail)
      clear hmk
      obtain ⟨w4, Hw4⟩ : ∃ u, Hid (w3.alloc (zeroObj sz) = u) := ⟨_, Lib.hid rfl⟩
      obtain ⟨g, Hg⟩ : ∃ u, Hid (w3.heap.size = u) := ⟨_, Lib.hid rfl⟩
      have Y4 : Hid (Bytes w4 g (List.replicate sz 0)) := Lib.hid (by rw [← Hw4.out, ← Hg.out]; exact bytes_zero w3 sz)
      have hb4 : Below w3.heap.size w3 w4 := by rw [← Hw4.out]; exact balloc (Below.refl _ _) _
      have B4 := Lib.hid (bnext B3.out hb4)
      have R4 := Lib.hid (R3.out.below hb4)
      have A4 := Lib.hid (A3.out.below hb4)
      have H4 := Lib.hid (H3.out.below hb4)
      have hgw : w.heap.size ≤ g := by have := B3.out.size; have := Hg.out; omega
      have hpg : p ≠ g := by have := R3.out.lt; have := Hg.out; omega
      have hag : a ≠ g := by have := A3.out.lt; have := Hg.out; omega
      clear hb4
      rw [Hw4.out, Hg.out]
      have a2 := A4.out.cell 2 rfl
      obtain ⟨kk, Hkk⟩ : ∃ u, Hid (min x.2.2.length sz = u) := ⟨_, Lib.hid rfl⟩
      have hcopy := copy_str Y4.out 0 x.2.2 sz sz kk Hkk.out (by have := Hkk.out; rw [List.length_replicate]; omega) 3
      go_wp2_with (at_builtin; refine wpList_copy2_run rfl (.tmp 37) (.tmp 39) 33 9 rfl hcopy ?_)
      clear hcopy a2
      go_upto_region 8 with (fail)
      obtain ⟨w5, Hw5⟩ : ∃ u, Hid (w4.setCells g 0 (u8V (x.2.2.take kk)) = u) := ⟨_, Lib.hid rfl⟩
      have M5 : Hid (Mod (· = g) w4 w5) := Lib.hid (by rw [← Hw5.out]; exact setCells_modT g _ 0 w4)
      have Y5 : Hid (Bytes w5 g (sized x.2.2 sz)) := Lib.hid (by
        have hk := Hkk.out
        have h := Bytes.over (x.2.2.take kk) Y4.out 0 (by rw [List.length_take, List.length_replicate]; omega)
        rw [Hw5.out] at h
        have e : (List.replicate sz (0 : UInt8)).take 0 ++ x.2.2.take kk ++ (List.replicate sz (0 : UInt8)).drop (0 + (x.2.2.take kk).length) = sized x.2.2 sz := by
          rw [sized, List.take_zero, List.nil_append, List.drop_replicate, List.length_take]
          have e1 : x.2.2.take kk = x.2.2.take sz := by
            rcases Nat.le_total x.2.2.length sz with h1 | h1
            · rw [List.take_of_length_le (by omega), List.take_of_length_le h1]
            · rw [show kk = sz by omega]
          rw [e1]
          congr 2
          omega
        rw [e] at h
        exact h)
      rw [Hw5.out]
      have B5 : Hid (Below w.heap.size w w5) := Lib.hid (bmod B4.out M5.out hgw)
      have b35 : Hid (Below w3.heap.size w3 w5) := Lib.hid (bmod (by rw [← Hw4.out]; exact balloc (Below.refl _ _) _) M5.out (by have := Hg.out; omega))
      go_wp2_with fail
      refine (Hcl.out w5 g (sized x.2.2 sz) (sized_len _ _) Y5.out B5.out hgw).mono ?_
      obtain ⟨D, HD⟩ : ∃ u, Hid (f (sized x.2.2 sz) = u) := ⟨_, Lib.hid rfl⟩
      have hDl : D.length = sz := by rw [← HD.out]; exact Hf.out _ (sized_len _ _)
      rw [HD.out] at C2 Hnew hT2 ⊢
      rintro e w6 ⟨rfl, y6, m6⟩
      have Y6 := Lib.hid y6
      have b36 : Hid (Below w3.heap.size w3 w6) := Lib.hid (bmod b35.out m6 (by have := Hg.out; omega))
      clear y6 m6
      have B6 := Lib.hid (bnext B3.out b36.out)
      have R6 := Lib.hid (R3.out.below b36.out)
      have A6 := Lib.hid (A3.out.below b36.out)
      have H6 := Lib.hid (H3.out.below b36.out)
      have hback : (convert 33 9 (.slice (some ⟨g, 0, none⟩) sz sz)).run Tryz.prog w6 = .ok (.string (str D)) w6 := by
        have h := Y6.out.back sz
        rw [hDl] at h
        exact h
      have a2 := A6.out.cell 2 rfl
      have af := A6.out.free 2
      go_upto_region 10 with (fail)
      clear a2 af hback
      obtain ⟨w7, Hw7⟩ : ∃ u, Hid (w6.setCell ⟨a, 2, none⟩ (.string (str D)) = u) := ⟨_, Lib.hid rfl⟩
      have M7 : Hid (Mod (· = a) w6 w7) := Lib.hid (by rw [← Hw7.out]; exact (Mod.refl _ w6).set1 _)
      have A7 : Hid (BoxC w7 a #[.int .i64 x.1, .int .i64 x.2.1, .string (str D)] 65) := Lib.hid (by rw [← Hw7.out]; exact A6.out.put 2 (.string (str D)))
      have R7 := Lib.hid (R6.out.kept M7.out hpa)
      have H7 := Lib.hid (H6.out.box Ht.out.ne M7.out A6.out (thg_no2 x.1 x.2.1 x.2.2) (thg_nohe x.1 x.2.1 x.2.2))
      have T7 : Hid (Turn w w7 b mt ml mt ml) := Lib.hid (Turn.below b mt ml (bmod B6.out M7.out (by have := Ha.out; have := B1.out.size; omega)))
      rw [Hw7.out]
      have hpo := H7.out.notOwn R7.out rep_no2
      have a0 := A7.out.cell 0 rfl
      have a1 := A7.out.cell 1 rfl
      have a2 := A7.out.cell 2 rfl
      go_wp2_with fail
      clear a0 a1 a2
      refine (set_any H7.out Ht.out.tok.free (by omega) th hwf (x.1, x.2.1, D) (by show D.length ≤ 100000; omega) (fun y hy => Ht.out.data hy)).mono ?_
      rintro e w9 ⟨rfl, mt1, h9, t9⟩
      have H9 : Hid (IsT w9 b mt1 ml (n + 2) (T.changeT th D)) := Lib.hid (by rw [Hnew.out]; exact h9.more (by omega))
      have T79 := Lib.hid t9
      clear h9 t9
      have R10 := Lib.hid (R7.out.kept T79.out.mod hpo)
      have T10 := Lib.hid (T7.out.trans T79.out)
      subst hT2
      have f0 := R10.out.free 0
      have f1 := R10.out.free 1
      have f2 := R10.out.free 2
      have f3 := R10.out.free 3
      have f4 := R10.out.free 4
      have f5 := R10.out.free 5
      have f6 := R10.out.free 6
      have z0 := R10.out.cell 0 rfl
      have z1 := R10.out.cell 1 rfl
      have z2 := R10.out.cell 2 rfl
      have z3 := R10.out.cell 3 rfl
      have z4 := R10.out.cell 4 rfl
      have z5 := R10.out.cell 5 rfl
      have z6 := R10.out.cell 6 rfl
      have RZ := Lib.hid (setR_box R10.out (repE 0))
      have HZ := Lib.hid (H9.out.box C2.out.ne (setR_mod w9 p (repE 0)) R10.out rep_no2 rep_nohe)
      have TZ := Lib.hid (T10.out.fresh (setR_mod w9 p (repE 0)) (by have := Hp.out; omega))
      go_wp2
      obtain ⟨wz, Hwz⟩ : ∃ u, Hid (setR w9 p (repE 0) = u) := ⟨_, Lib.hid rfl⟩
      rw [Hwz.out] at RZ HZ TZ
      rw [show ((((((w9.setCell ⟨p, 0, none⟩ (.int .i64 0)).setCell ⟨p, 1, none⟩ (.string (str []))).setCell ⟨p, 2, none⟩ (.slice none 0 0)).setCell ⟨p, 3, none⟩ (.int .i64 0)).setCell ⟨p, 4, none⟩ (.int .i64 0)).setCell ⟨p, 5, none⟩ (.int .i64 0)).setCell ⟨p, 6, none⟩ (.int .i64 0) = wz from Hwz.out]
      have s0 := RZ.out.cell 0 rfl
      have s1 := RZ.out.cell 1 rfl
      have s2 := RZ.out.cell 2 rfl
      have s3 := RZ.out.cell 3 rfl
      have s4 := RZ.out.cell 4 rfl
      have s5 := RZ.out.cell 5 rfl
      have s6 := RZ.out.cell 6 rfl
      exact bodyPost_ret (v := repV (repE 0)) (by simp [results, Tryz.results58, go_sem, s0, s1, s2, s3, s4, s5, s6]) rfl ⟨rfl, mt1, HZ.out, TZ.out⟩
end
end Go.Proofs.YtiomhdanmcnaeaaGreatDoor
