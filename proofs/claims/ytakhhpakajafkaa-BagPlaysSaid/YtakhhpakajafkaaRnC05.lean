/- What the document's network does: Take, Send, Double, Void. -/
import Derived.Test.YtakhhpakajafkaaRnB05
namespace Go.Proofs.Ytakhhpakajafkaa
open Go.RowKit

/-- What Take tells and leaves. -/
def TakeR (w : World) (B c : Nat) (v : Value) (L : List Pcl) (i j x : Int) (e : Ending) (w' : World) : Prop :=
  (cntR L i j = 0 ∧ RDid w B c v L (.tuple #[.string (str []), .bool false]) e w') ∨
  ∃ p q, 0 < cntR L i j ∧ Spot L i j (wh x (cntR L i j)) p ∧ L[p]? = some q ∧ RDid w B c v (L.eraseIdx p) (.tuple #[.string (str q.2.2), .bool true]) e w'
set_option maxHeartbeats 1000000 in
theorem TakeR_any {w : World} {B c : Nat} {v : Value} {L : List Pcl} (h : RN w B c v L) (hB : B ≤ w.heap.size) (i j : Int) {x : Int} (hx : (Lit.int .i64 x).wf = true) :
    Calls Try.prog 13 #[.pointer (some ⟨c, 0, none⟩), .int .i64 i, .int .i64 j, .int .i64 x] w (TakeR w B c v L i j x) := by
  have Hh := Lib.hid h
  clear h
  go_enter Try.func13, Try.ntmps13
  go_wp2_with fail
  refine (place_any Hh.out i j hx).mono ?_
  rintro e w1 ⟨rfl, ⟨hc0, rfl⟩ | ⟨p, hc0, hsp, rfl⟩⟩
  · have Hc0 := Lib.hid hc0
    clear hc0
    go_wp2
    go_ret2
    exact .inl ⟨Hc0.out, RDid.same Hh.out rfl⟩
  · have Hsp := Lib.hid hsp
    have Hc0 := Lib.hid hc0
    obtain ⟨hp, hon, _⟩ := hsp
    obtain ⟨g, cap, hv, _, _, _, a2⟩ := Hh.out.row.cells hp
    subst hv
    have hc := Hh.out.cell
    have hlen := Hh.out.len
    have Hlen : Hid (p < L.length) := Lib.hid hp
    obtain ⟨q, hq⟩ : ∃ q, L[p]? = some q := ⟨_, List.getElem?_eq_getElem hp⟩
    have e2 : L[p] = q := by rw [List.getElem?_eq_getElem hp] at hq; exact Option.some.inj hq
    have Hq := Lib.hid hq
    rw [show L[p].2.2 = q.2.2 by rw [e2]] at a2
    clear hq e2
    obtain ⟨n, Hn⟩ : ∃ n, Hid (L.length = n) := ⟨_, Lib.hid rfl⟩
    rw [Hn.out] at hc hlen
    have hpn : (p : Int) < (n : Int) := by have := Hlen.out; have := Hn.out; omega
    clear hc0
    go_wp2_with fail
    refine (without_any Hh.out hB Hlen.out).mono ?_
    rintro e w2 ⟨rfl, hd⟩
    have Hd := Lib.hid hd
    clear hd hc a2
    go_wp2
    go_ret2
    exact .inr ⟨p, q, Hc0.out, Hsp.out, Hq.out, rfl, Hd.out⟩
theorem own_blk : ∀ v : Value, v.ownBlock = blk v := by
  intro v
  unfold Value.ownBlock blk
  rfl
theorem own_row {w : World} {B : Nat} {e : TypeId} {v : Value} {n : Nat} {xs : List Value} (h : w.ownsRow B e 3 v n xs) : Row w 3 v n xs := by
  have hh := h
  refine ⟨h.1, ?_⟩
  rcases h.2 with h0 | ⟨g, cap, cur, rfl, hb, hg, h1, h2, h3, h4⟩
  · exact .inl h0
  · refine .inr ⟨g, 0, cap, rfl, (Array.getElem?_eq_some_iff.1 hg).1, h1, h2, fun j u hu => ?_, fun j hj => ?_, fun j hj => ?_⟩
    · have := World.ownsRow.cells hh (g := g) rfl j u hu
      rwa [Go.WideShapes.add_plain] at this
    · have e1 : n * 3 + j < cur.size := by rw [h3]; omega
      simp [World.cell?, hg, e1]
    · exact World.ownsRow.frozenAt hh _
theorem run_append_both {w : World} {B : Nat} {t ty e : TypeId} {i : TypeInfo} {z : Value} {bytes : Nat} (ht : Try.prog.underlying t = some (.slice e)) (hi : Try.prog.info? e = some i) (hz : i.zero = some z)
    (hsize : i.size = 3) (hby : i.bytes = bytes) (hzs : z.cells.size = 3) {v : Value} {n : Nat} {xs : List Value} (hown : w.ownsRow B e 3 v n xs)
    (ad : Addr) (m c : Nat) (news : List Value) (hl : news.length = m * 3) (hnews : ∀ j u, news[j]? = some u → w.cell? (ad.add j) = some u) (h1 : ∀ u ∈ news, u.oneCell' = true)
    (h63 : n + m ≤ maxLen) (hbytes : (n + m) * bytes ≤ 140737488355328) (hbase : B ≤ w.heap.size) :
    ∃ v' w', (Builtin.append_ #[t, t] ty #[v, .slice (some ad) m c]).run Try.prog w = .ok v' w' ∧ w'.ownsRow B e 3 v' (n + m) (xs ++ news) ∧ w.grownBy w' v.ownBlock ∧ ∀ g, v'.ownBlock = some g → v.ownBlock = some g ∨ w.heap.size ≤ g := by
  obtain ⟨v1, w1, r1, o1, g1, _⟩ := run_append_own (P := Try.prog) w B t ty e i z 3 bytes ht hi hz hsize hby hzs (by decide) v n xs hown ad m c news hl hnews h1 h63 hbytes hbase
  obtain ⟨v2, w2, r2, _, _, b2⟩ := append_any (own_row hown) t ty e i z bytes ht hi hz hsize hby hzs (by decide) ad m c news hl hnews h1 h63 hbytes
  rw [r1] at r2
  injection r2 with r2 r3
  subst r2 r3
  refine ⟨v1, w1, r1, o1, g1, fun g hg => ?_⟩
  rw [own_blk] at hg ⊢
  rcases b2 with b2 | ⟨g', b2, b3⟩
  · exact .inl (by rw [← b2]; exact hg)
  · rw [b2] at hg
    injection hg with hg
    exact .inr (by omega)
theorem run_append_keep {w : World} {B : Nat} {t ty e : TypeId} {i : TypeInfo} {z : Value} {bytes : Nat} (ht : Try.prog.underlying t = some (.slice e)) (hi : Try.prog.info? e = some i) (hz : i.zero = some z)
    (hsize : i.size = 3) (hby : i.bytes = bytes) (hzs : z.cells.size = 3) {v : Value} {n : Nat} {xs : List Value} (hown : w.ownsRow B e 3 v n xs)
    (ad : Addr) (c : Nat) (news : List Value) (hl : news.length = 1 * 3) (hnews : ∀ j u, news[j]? = some u → w.cell? (ad.add j) = some u) (h1 : ∀ u ∈ news, u.oneCell' = true)
    (h63 : n + 1 ≤ maxLen) (hbytes : (n + 1) * bytes ≤ 140737488355328) (hbase : B ≤ w.heap.size) :
    ∃ v' w', (Builtin.append_ #[t, t] ty #[v, .slice (some ad) 1 c]).run Try.prog w = .ok v' w' ∧ w'.ownsRow B e 3 v' (n + 1) (xs ++ news) ∧ w.grownBy w' v.ownBlock ∧ (∀ g, v'.ownBlock = some g → v.ownBlock = some g ∨ w.heap.size ≤ g) ∧ Row w' 3 v n xs := by
  obtain ⟨v1, w1, r1, o1, g1, b1⟩ := run_append_both (ty := ty) ht hi hz hsize hby hzs hown ad 1 c news hl hnews h1 h63 hbytes hbase
  obtain ⟨v2, w2, r2, _, a3, _⟩ := (own_row hown).append t ty e i z bytes ht hi hz hsize hby hzs (by decide) ad 1 c news hl hnews h1 (by decide) h63 hbytes
  rw [r1] at r2
  injection r2 with r2 r3
  subst r2 r3
  exact ⟨v1, w1, r1, o1, g1, b1, a3⟩
theorem wpList_append_both (w : World) {ops : Array Oper} {rest : List Oper} {o : Oper} {a : Act} {Q : Exit → Act → World → Prop} (hgd : o.guard = none) (s x : Operand) (t : TypeId)
    (ho : o.op = .call { callee := .builtin .append, args := #[s, x], argTypes := #[t, t] }) {B : Nat} (e : TypeId) (i : TypeInfo) (z : Value) (bytes : Nat) (ht : Try.prog.underlying t = some (.slice e)) (hi : Try.prog.info? e = some i) (hz : i.zero = some z)
    (hsize : i.size = 3) (hby : i.bytes = bytes) (hzs : z.cells.size = 3) {v : Value} {n : Nat} {xs : List Value} (hs : a.eval s = v) (hown : w.ownsRow B e 3 v n xs)
    (ad : Addr) (m c : Nat) (news : List Value) (hx : a.eval x = .slice (some ad) m c) (hl : news.length = m * 3) (hnews : ∀ j u, news[j]? = some u → w.cell? (ad.add j) = some u) (h1 : ∀ u ∈ news, u.oneCell' = true)
    (h63 : n + m ≤ maxLen) (hbytes : (n + m) * bytes ≤ 140737488355328) (hbase : B ≤ w.heap.size)
    (hK : ∀ v' w', w'.ownsRow B e 3 v' (n + m) (xs ++ news) → w.grownBy w' v.ownBlock → (∀ g, v'.ownBlock = some g → v.ownBlock = some g ∨ w.heap.size ≤ g) → wpList Try.prog ops Q rest (a.put o.dst v') w') :
    wpList Try.prog ops Q (o :: rest) a w := by
  refine wpList_plain hgd fun K' hK' => ?_
  obtain ⟨v', w', hr, h2, h3, h4⟩ := run_append_both (ty := o.type) ht hi hz hsize hby hzs hown ad m c news hl hnews h1 h63 hbytes hbase
  unfold Oper.wp execOp
  simp only [ho, resolve, invoke, builtin, Sem.run_bind, Sem.run_pure, Result.andThen_ok, List.map_toArray, List.map_cons, List.map_nil, hs, hx, hr]
  exact hK' _ _ (hK v' w' h2 h3 h4)
def sendOk (L : List Pcl) (i j : Int) (l : List UInt8) : Bool := linkB i j && decide (l.length ≤ 2000) && decide (cntR L i j < 200)
/-- One more stands behind all others. -/
theorem RN.more {w w0 w1 : World} {B c : Nat} {v v' : Value} {L : List Pcl} {p : Pcl} (h : RN w B c v L) (hA : Below w.heap.size w w0) (hl : L.length < 12800) (hown : w1.ownsRow B 35 3 v' (L.length + 1) (pc L ++ pc1 p)) (hg : w0.grownBy w1 v.ownBlock) (hblk : ∀ g, v'.ownBlock = some g → v.ownBlock = some g ∨ w.heap.size ≤ g) :
    RN (w1.setCell ⟨c, 0, none⟩ v') B c v' (L ++ [p]) ∧ Mod (fun g => g = c ∨ v.ownBlock = some g) w (w1.setCell ⟨c, 0, none⟩ v') ∧ ∀ g, v'.ownBlock = some g → v.ownBlock = some g ∨ w.heap.size ≤ g := by
  have hM := mod_grown hg
  have hs := hA.size
  have hc1 : w1.cell? ⟨c, 0, none⟩ = some v := (hM.cell (p := ⟨c, 0, none⟩) (Nat.lt_of_lt_of_le h.lt hs) (fun e => h.ne e)).trans ((hA.cell (p := ⟨c, 0, none⟩) h.lt).trans h.cell)
  have f1 : w1.frozen? ⟨c, 0, none⟩ = false := (hM.frozen (p := ⟨c, 0, none⟩) (Nat.lt_of_lt_of_le h.lt hs) (fun e => h.ne e)).trans ((hA.frozen (p := ⟨c, 0, none⟩) h.lt).trans h.free)
  have hps : Ps B w1 v' (L ++ [p]) := by
    unfold Ps
    rw [List.length_append, pc_append, pc_one]
    exact hown
  have hne : v'.ownBlock ≠ some c := fun e => by
    rcases hblk c e with h1 | h1
    · exact h.ne h1
    · have := h.lt; omega
  refine ⟨⟨set_same hc1, set_frozen f1, hps.later (S := (· = c)) ((Mod.refl _ _).set1 _) (fun x hx e => hne (by rw [← show x = c from e]; exact hx)), hne, by simp; omega⟩, ?_, hblk⟩
  exact ((Mod.of_below (S := fun g => g = c ∨ v.ownBlock = some g) hA).trans (hM.mono (fun k _ hk => .inr hk))).setCell (.inl (.inl rfl)) _
set_option maxRecDepth 100000 in
set_option maxHeartbeats 1000000 in
theorem SendR_any {w : World} {B c : Nat} {v : Value} {L : List Pcl} (h : RN w B c v L) (hB : B ≤ w.heap.size) (hl : L.length < 12800) (i j : Int) (l : List UInt8) (hsz : l.length ≤ 9223372036854775807) :
    Calls Try.prog 23 #[.pointer (some ⟨c, 0, none⟩), .int .i64 i, .int .i64 j, .string (str l)] w (RDid w B c v (if sendOk L i j l then L ++ [(i, j, l)] else L) (.bool (sendOk L i j l))) := by
  have Hh := Lib.hid h
  have Hsame := Lib.hid (RDid.same h (x := .bool false) rfl)
  have hcl := cntR_le L i j
  obtain ⟨C, HC⟩ : ∃ C, Hid (cntR L i j = C) := ⟨_, Lib.hid rfl⟩
  rw [HC.out] at hcl
  obtain ⟨ok, Hok⟩ : ∃ b, Hid (sendOk L i j l = b) := ⟨_, Lib.hid rfl⟩
  rw [Hok.out]
  cases hlk : linkB i j with
  | false =>
    have e : ok = false := by rw [← Hok.out, sendOk, hlk]; simp
    subst e
    clear h
    go_enter Try.func23, Try.ntmps23
    go_wp2_with fail
    refine (link_any _ i j).mono ?_
    rw [hlk]
    rintro e w1 ⟨rfl, rfl⟩
    go_wp2
    go_ret
    exact Hsame.out
  | true =>
    by_cases hl2 : l.length ≤ 2000
    · have hl3 : ¬ (2000 : Int) < (l.length : Int) := by omega
      by_cases hc2 : C < 200
      · have hc3 : ¬ (200 : Int) ≤ (C : Int) := by omega
        have e : ok = true := by rw [← Hok.out, sendOk, hlk, HC.out]; simp [hl2, hc2]
        subst e
        obtain ⟨i0, hi, hz0, hz1, hz2⟩ := info_parts infoP
        have Hi := Lib.hid hi
        have Hz0 := Lib.hid hz0
        have Hz1 := Lib.hid hz1
        have Hz2 := Lib.hid hz2
        have hc := h.cell
        have fc := h.free
        have hA : Below w.heap.size w (w.alloc (.cells #[.int .i64 i, .int .i64 j, .string (str l)] 35)) := balloc (Below.refl _ _) _
        have HA := Lib.hid hA
        obtain ⟨a, cap, hv⟩ := h.row.slice
        subst hv
        clear h hi hz0 hz1 hz2 hA
        go_enter Try.func23, Try.ntmps23
        go_wp2_with fail
        refine (link_any _ i j).mono ?_
        rw [hlk]
        rintro e w1 ⟨rfl, rfl⟩
        go_wp2_with fail
        refine (WaitsR Hh.out i j).mono ?_
        rw [HC.out]
        rintro e w1 ⟨rfl, rfl⟩
        go_wp2_with (at_builtin; refine wpList_append_both _ rfl _ _ 27 rfl (B := B) 35 i0 (.agg #[.int .i64 0, .int .i64 0, .string ByteArray.empty]) 32 Try.underlying27 Hi.out Hz0.out Hz1.out Hz2.out rfl rfl (Hh.out.row.below HA.out) ⟨w.heap.size, 0, none⟩ 1 1 (pc1 (i, j, l)) rfl rfl (pc_at w (i, j, l) _) (pc_one' _) ?c3 ?c4 ?c5 ?_)
        case c3 => unfold maxLen; omega
        case c4 => omega
        case c5 => simp; omega
        intro v' w4 hown' hgrow' hblk'
        have hM := mod_grown hgrow'
        have hc1 : w4.cell? ⟨c, 0, none⟩ = some (.slice a L.length cap) := (hM.cell (p := ⟨c, 0, none⟩) (by have := Hh.out.lt; simp; omega) (fun e => Hh.out.ne e)).trans ((HA.out.cell (p := ⟨c, 0, none⟩) Hh.out.lt).trans hc)
        have f1 : w4.frozen? ⟨c, 0, none⟩ = false := (hM.frozen (p := ⟨c, 0, none⟩) (by have := Hh.out.lt; simp; omega) (fun e => Hh.out.ne e)).trans ((HA.out.frozen (p := ⟨c, 0, none⟩) Hh.out.lt).trans fc)
        have Hmore := Lib.hid (Hh.out.more HA.out hl hown' hgrow' (fun g hg => (hblk' g hg).imp id (fun h => by omega)))
        clear hown' hgrow' hblk' hM hc fc
        obtain ⟨a', cap', hv'⟩ := Hmore.out.1.row.slice
        rw [List.length_append, List.length_singleton] at hv'
        subst hv'
        go_wp2
        go_ret
        exact ⟨rfl, _, Hmore.out⟩
      · have hc3 : (200 : Int) ≤ (C : Int) := by omega
        have e : ok = false := by rw [← Hok.out, sendOk, HC.out]; simp [hc2]
        subst e
        clear h
        go_enter Try.func23, Try.ntmps23
        go_wp2_with fail
        refine (link_any _ i j).mono ?_
        rw [hlk]
        rintro e w1 ⟨rfl, rfl⟩
        go_wp2_with fail
        refine (WaitsR Hh.out i j).mono ?_
        rw [HC.out]
        rintro e w1 ⟨rfl, rfl⟩
        go_wp2
        go_ret
        exact Hsame.out
    · have hl3 : (2000 : Int) < (l.length : Int) := by omega
      have e : ok = false := by rw [← Hok.out, sendOk]; simp [hl2]
      subst e
      clear h
      go_enter Try.func23, Try.ntmps23
      go_wp2_with fail
      refine (link_any _ i j).mono ?_
      rw [hlk]
      rintro e w1 ⟨rfl, rfl⟩
      go_wp2
      go_ret
      exact Hsame.out
end Go.Proofs.Ytakhhpakajafkaa
