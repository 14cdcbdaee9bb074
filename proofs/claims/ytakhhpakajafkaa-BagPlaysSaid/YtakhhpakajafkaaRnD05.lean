/- What the document's network does: Double, Void. -/
import Derived.Test.YtakhhpakajafkaaRnC05
import Derived.Test.YtakhhpakajafkaaMix
namespace Go.Proofs.Ytakhhpakajafkaa
open Go.RowKit

def DoubleR (w : World) (B c : Nat) (v : Value) (L : List Pcl) (i j x : Int) (e : Ending) (w' : World) : Prop :=
  ((cntR L i j = 0 ∨ 200 ≤ cntR L i j) ∧ RDid w B c v L (.bool false) e w') ∨
  ∃ p q, 0 < cntR L i j ∧ cntR L i j < 200 ∧ Spot L i j (wh x (cntR L i j)) p ∧ L[p]? = some q ∧ RDid w B c v (L ++ [q]) (.bool true) e w'
section
variable {P : Program} {ops : Array Oper} {C : World → Prop} {Q : Exit → Act → World → Prop}
/-- An append in a statement that leaves its order open. -/
theorem mix1_append {i : Nat} {l : List (Nat × Nat)} {a : Act} {w : World} {o : Oper} (ho : ops[i]? = some o) (hgd : o.guard = none) (s x : Operand) (t : TypeId)
    (hop : o.op = .call { callee := .builtin .append, args := #[s, x], argTypes := #[t, t] }) {v u v' : Value} {w' : World} (hs : a.eval s = v) (hx : a.eval x = u)
    (hr : (Builtin.append_ #[t, t] o.type #[v, u]).run P w = .ok v' w') (hC : C w') (hk : wpMix P ops C Q l (a.put o.dst v') w') : wpMix P ops C Q ((i, 1) :: l) a w := by
  refine mix1 ho (fun K hK => ?_)
  rw [if_pos (by simp [Region.wanted, hgd])]
  unfold execOp
  simp only [hop, resolve, invoke, builtin, Sem.run_bind, Sem.run_pure, Result.andThen_ok, List.map_toArray, List.map_cons, List.map_nil, hs, hx, hr]
  exact hK _ _ hC hk
end
abbrev Sd (g c n cap p : Nat) (q : Pcl) : World → Prop := fun u => u.cell? ⟨c, 0, none⟩ = some (.slice (some ⟨g, 0, none⟩) n cap) ∧ u.cell? ⟨g, p * 3, none⟩ = some (.int .i64 q.1) ∧ u.cell? ⟨g, p * 3 + 1, none⟩ = some (.int .i64 q.2.1) ∧ u.cell? ⟨g, p * 3 + 2, none⟩ = some (.string (str q.2.2))
set_option maxRecDepth 100000 in
set_option maxHeartbeats 1000000 in
theorem DoubleR_any {w : World} {B c : Nat} {v : Value} {L : List Pcl} (h : RN w B c v L) (_ : B ≤ w.heap.size) (hl : L.length < 12800) (i j : Int) {x : Int} (hx : (Lit.int .i64 x).wf = true) :
    Calls Try.prog 18 #[.pointer (some ⟨c, 0, none⟩), .int .i64 i, .int .i64 j, .int .i64 x] w (DoubleR w B c v L i j x) := by
  have Hh := Lib.hid h
  have Hsame := Lib.hid (RDid.same h (x := .bool false) rfl)
  have hcl := cntR_le L i j
  obtain ⟨C, HC⟩ : ∃ C, Hid (cntR L i j = C) := ⟨_, Lib.hid rfl⟩
  rw [HC.out] at hcl
  clear h
  go_enter Try.func18, Try.ntmps18
  go_wp2_with fail
  refine (place_any Hh.out i j hx).mono ?_
  rintro e w1 ⟨rfl, ⟨hc0, rfl⟩ | ⟨p, hc0, hsp, rfl⟩⟩
  · have Hc0 := Lib.hid hc0
    clear hc0
    go_wp2
    go_ret
    exact .inl ⟨.inl Hc0.out, Hsame.out⟩
  · have Hsp := Lib.hid hsp
    have Hc0 := Lib.hid hc0
    by_cases hc2 : C < 200
    · have hc3 : ¬ (200 : Int) ≤ (C : Int) := by omega
      obtain ⟨i0, hi, hz0, hz1, hz2⟩ := info_parts infoP
      have Hi := Lib.hid hi
      have Hz0 := Lib.hid hz0
      have Hz1 := Lib.hid hz1
      have Hz2 := Lib.hid hz2
      obtain ⟨hp, hon, _⟩ := hsp
      obtain ⟨q, hq⟩ : ∃ q, L[p]? = some q := ⟨_, List.getElem?_eq_getElem hp⟩
      have Hq := Lib.hid hq
      have Hpl := Lib.hid hp
      obtain ⟨g, cap, hv, _, a0, a1, a2⟩ := Hh.out.row.cells hp
      have e2 : L[p] = q := by rw [List.getElem?_eq_getElem hp] at hq; exact Option.some.inj hq
      rw [show L[p].1 = q.1 by rw [e2]] at a0
      rw [show L[p].2.1 = q.2.1 by rw [e2]] at a1
      rw [show L[p].2.2 = q.2.2 by rw [e2]] at a2
      subst hv
      have hc := Hh.out.cell
      have fc := Hh.out.free
      have Hcg : Hid (g ≠ c) := Lib.hid (fun e => Hh.out.ne (by rw [e]; rfl))
      obtain ⟨n, Hn⟩ : ∃ n, Hid (L.length = n) := ⟨_, Lib.hid rfl⟩
      have hpn : (p : Int) < (n : Int) := by have := Hpl.out; have := Hn.out; omega
      have hlen : n < 12800 := by rw [← Hn.out]; exact hl
      rw [Hn.out] at hc
      have HC3 := Lib.hid hc2
      clear hi hz0 hz1 hz2 hc0 hon e2 hq hp hc2
      go_wp2_with fail
      refine (WaitsR Hh.out i j).mono ?_
      rw [HC.out]
      rintro e w1 ⟨rfl, rfl⟩
      go_wp2_with fail
      have Hcls : Hid (Sd g c n cap p q w) := Lib.hid ⟨hc, a0, a1, a2⟩
      have k0 : ∀ y : In (Sd g c n cap p q), y.u.cell? ⟨c, 0, none⟩ = some (.slice (some ⟨g, 0, none⟩) n cap) := fun y => y.is.1
      have k1 : ∀ y : In (Sd g c n cap p q), y.u.cell? ⟨g, p * 3, none⟩ = some (.int .i64 q.1) := fun y => y.is.2.1
      have k2 : ∀ y : In (Sd g c n cap p q), y.u.cell? ⟨g, p * 3 + 1, none⟩ = some (.int .i64 q.2.1) := fun y => y.is.2.2.1
      have k3 : ∀ y : In (Sd g c n cap p q), y.u.cell? ⟨g, p * 3 + 2, none⟩ = some (.string (str q.2.2)) := fun y => y.is.2.2.2
      have : Nonempty (In (Sd g c n cap p q)) := ⟨⟨w, Hcls.out⟩⟩
      refine wp_region_mix (by kernel_rfl) (Cls (Sd g c n cap p q)) [(0, 0), (1, 0), (2, 0), (3, 0), (4, 0), (5, 0), (6, 0), (7, 0), (8, 0), (9, 0), (10, 0), (11, 0), (12, 1), (13, 1), (14, 0), (15, 0), (16, 2)] (by kernel_rfl) (cls Hcls.out) ?_
      clear hc a0 a1 a2
      repeat (refine mix0 rfl (fun K hK => ?_); go_simp; refine hK _ ?_; clear hK K)
      refine mix1 rfl (fun K hK => ?_)
      go_simp
      have hA : Below w.heap.size w (w.alloc (.cells #[.int .i64 q.1, .int .i64 q.2.1, .string (str q.2.2)] 35)).drew := (balloc (Below.refl _ _) _).drew
      obtain ⟨wA, HwA⟩ : ∃ u, Hid ((w.alloc (.cells #[.int .i64 q.1, .int .i64 q.2.1, .string (str q.2.2)] 35)).drew = u) := ⟨_, Lib.hid rfl⟩
      have Hnews : Hid (∀ i u, (pc1 q)[i]? = some u → wA.cell? ((⟨w.heap.size, 0, none⟩ : Addr).add i) = some u) := Lib.hid (by rw [← HwA.out]; exact pc_at w q _)
      rw [show (w.alloc (.cells #[.int .i64 q.1, .int .i64 q.2.1, .string (str q.2.2)] 35)).drew = wA from HwA.out]
      rw [HwA.out] at hA
      have HA := Lib.hid hA
      have hlt := Hh.out.lt
      have hgl : g < w.heap.size := (Hh.out.row.own (g := g) rfl).2
      refine hK _ _ (cls ⟨(HA.out.cell (p := ⟨c, 0, none⟩) hlt).trans Hcls.out.1, (HA.out.cell (p := ⟨g, p * 3, none⟩) hgl).trans Hcls.out.2.1, (HA.out.cell (p := ⟨g, p * 3 + 1, none⟩) hgl).trans Hcls.out.2.2.1, (HA.out.cell (p := ⟨g, p * 3 + 2, none⟩) hgl).trans Hcls.out.2.2.2⟩) ?_
      clear hK K
      obtain ⟨v', w4, hr, hown', hgrow', hblk', hrow'⟩ := run_append_keep (ty := 27) (t := 27) (B := B) Try.underlying27 Hi.out Hz0.out Hz1.out Hz2.out (by rfl) (Hh.out.row.below HA.out) ⟨w.heap.size, 0, none⟩ 1 (pc1 q) rfl Hnews.out (pc_one' _) (by unfold maxLen; omega) (by omega) (by have := HA.out.size; omega)
      rw [Hn.out] at hr
      have hcl4 : Sd g c n cap p q w4 := by
        obtain ⟨p0, p1, p2⟩ := pc_get L p q Hq.out
        have hs := HA.out.size
        have hcell : ∀ j u, (pc L)[j]? = some u → w4.cell? ⟨g, j, none⟩ = some u := fun j u hu => by
          rcases hrow'.is with ⟨e1, _⟩ | ⟨g2, o2, c2, e1, _, _, _, hcc, _⟩
          · cases e1
          · injection e1 with e1
            injection e1 with e1
            injection e1 with e1 e2
            subst e1 e2
            have := hcc j u hu
            rwa [Nat.zero_add] at this
        exact ⟨((mod_grown hgrow').cell (p := ⟨c, 0, none⟩) (by show c < _; omega) (fun e => Hh.out.ne e)).trans ((HA.out.cell (p := ⟨c, 0, none⟩) hlt).trans Hcls.out.1), hcell _ _ p0, hcell _ _ p1, hcell _ _ p2⟩
      have f4 : w4.frozen? ⟨c, 0, none⟩ = false := ((mod_grown hgrow').frozen (p := ⟨c, 0, none⟩) (by have := HA.out.size; show c < _; omega) (fun e => Hh.out.ne e)).trans ((HA.out.frozen (p := ⟨c, 0, none⟩) hlt).trans Hh.out.free)
      have Hcl4 := Lib.hid hcl4
      have Hmore := Lib.hid (Hh.out.more HA.out hl hown' hgrow' (fun g hg => (hblk' g hg).imp id (fun h => by have := HA.out.size; omega)))
      clear hcl4 hown' hgrow' hblk' hrow'
      obtain ⟨a', cap', hv'⟩ := Hmore.out.1.row.slice
      rw [List.length_append, List.length_singleton, Hn.out] at hv'
      subst hv'
      refine mix1_append rfl rfl _ _ 27 rfl rfl rfl hr (cls Hcl4.out) ?_
      clear hr k0 k1 k2 k3
      have hw4 := Hcl4.out.1
      repeat (refine mix0 rfl (fun K hK => ?_); go_simp; refine hK _ ?_; clear hK K)
      refine mix2 rfl (fun K hK => ?_)
      go_simp
      refine hK _ _ ?_
      clear hK K
      refine mixEnd ?_
      clear hw4 f4
      go_wp2
      go_ret
      exact .inr ⟨p, q, Hc0.out, by rw [HC.out]; exact HC3.out, Hsp.out, Hq.out, rfl, _, Hmore.out⟩
    · have hc3 : (200 : Int) ≤ (C : Int) := by omega
      have HC3 : Hid (200 ≤ C) := Lib.hid (by omega)
      clear hc0 hsp
      go_wp2_with fail
      refine (WaitsR Hh.out i j).mono ?_
      rw [HC.out]
      rintro e w1 ⟨rfl, rfl⟩
      go_wp2
      go_ret
      exact .inl ⟨.inr (by rw [HC.out]; exact HC3.out), Hsame.out⟩
end Go.Proofs.Ytakhhpakajafkaa
