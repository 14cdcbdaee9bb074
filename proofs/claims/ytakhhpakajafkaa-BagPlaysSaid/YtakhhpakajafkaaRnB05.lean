/- What the document's network does: one taken out, sent, doubled. -/
import Derived.Test.YtakhhpakajafkaaRn05
namespace Go.Proofs.Ytakhhpakajafkaa
open Go.RowKit

/-- What a call of the document's network leaves. -/
def RDid (w : World) (B c : Nat) (v : Value) (L' : List Pcl) (x : Value) (e : Ending) (w' : World) : Prop :=
  e = .returned x ∧ ∃ v', RN w' B c v' L' ∧ Mod (fun g => g = c ∨ v.ownBlock = some g) w w' ∧ ∀ g, v'.ownBlock = some g → v.ownBlock = some g ∨ w.heap.size ≤ g
theorem RDid.same {w : World} {B c : Nat} {v : Value} {L : List Pcl} (h : RN w B c v L) {x : Value} {e : Ending} (he : e = .returned x) : RDid w B c v L x e w := ⟨he, v, h, Mod.refl _ _, fun _ h => .inl h⟩
theorem Ps.parts {B : Nat} {w : World} {v : Value} {l : List Pcl} (h : Ps B w v l) (h0 : 0 < l.length) : ∃ g cap, v = .slice (some ⟨g, 0, none⟩) l.length cap ∧ B ≤ g ∧ g < w.heap.size ∧ l.length ≤ cap ∧ cap ≤ maxLen ∧ ∀ j u, (pc l)[j]? = some u → w.cell? ⟨g, j, none⟩ = some u := by
  have hh := h.2
  rcases hh with ⟨rfl, h1⟩ | ⟨g, cap, cur, rfl, hb, hg, h1, h2, h3, h4⟩
  · omega
  · refine ⟨g, cap, rfl, hb, (Array.getElem?_eq_some_iff.1 hg).1, h1, h2, fun j u hu => ?_⟩
    have := World.ownsRow.cells h (g := g) rfl j u hu
    rwa [Go.WideShapes.add_plain, Nat.zero_add] at this
theorem pc_take (l : List Pcl) (p j : Nat) (u : Value) (h : (pc (l.take p))[j]? = some u) : (pc l)[j]? = some u := by
  have e : pc l = pc (l.take p) ++ pc (l.drop p) := by rw [← pc_append, List.take_append_drop]
  rw [e, List.getElem?_append_left (List.getElem?_eq_some_iff.1 h).1]
  exact h
theorem pc_drop (l : List Pcl) (p j : Nat) (hp : p ≤ l.length) (u : Value) (h : (pc (l.drop p))[j]? = some u) : (pc l)[p * 3 + j]? = some u := by
  have e : pc l = pc (l.take p) ++ pc (l.drop p) := by rw [← pc_append, List.take_append_drop]
  have hl : (pc (l.take p)).length = p * 3 := by rw [pc_length, List.length_take, Nat.min_eq_left hp]
  rw [e, List.getElem?_append_right (by omega), hl, Nat.add_sub_cancel_left]
  exact h
theorem Ps.weak {B Z : Nat} {w : World} {v : Value} {l : List Pcl} (h : Ps Z w v l) (hB : B ≤ Z) : Ps B w v l := by
  refine ⟨h.1, ?_⟩
  rcases h.2 with h0 | ⟨g, cap, cur, rfl, hb, rest⟩
  · exact .inl h0
  · exact .inr ⟨g, cap, cur, rfl, Nat.le_trans hB hb, rest⟩
set_option maxHeartbeats 1000000 in
theorem without_any {w : World} {B c : Nat} {v : Value} {L : List Pcl} (h : RN w B c v L) (hB : B ≤ w.heap.size) {p : Nat} (hp : p < L.length) :
    Calls Try.prog 34 #[.pointer (some ⟨c, 0, none⟩), .int .i64 (p : Int)] w (RDid w B c v (L.eraseIdx p) (.tuple #[])) := by
  obtain ⟨i0, hi, hz0, hz1, hz2⟩ := info_parts infoP
  obtain ⟨g, cap, rfl, hBg, hgs, hnc, hcm, hcells⟩ := h.row.parts (by omega)
  have hlen := h.len
  have hc := h.cell
  have Hh := Lib.hid h
  have Hi := Lib.hid hi
  have Hz0 := Lib.hid hz0
  have Hz1 := Lib.hid hz1
  have Hz2 := Lib.hid hz2
  have Hcells := Lib.hid hcells
  have Hp := Lib.hid hp
  have He := Lib.hid (erase_part L p)
  have hgc : g ≠ c := fun e => h.ne (by rw [e]; rfl)
  have Hgc := Lib.hid hgc
  have Hc1 : Hid ((pc (L.take p)).length = p * 3) := Lib.hid (by rw [pc_length, List.length_take, Nat.min_eq_left (by omega)])
  have Hc2 : Hid ((pc (L.drop (p + 1))).length = (L.length - (p + 1)) * 3) := Lib.hid (by rw [pc_length, List.length_drop])
  have Hl1 : Hid ((L.take p).length = p ∧ (L.drop (p + 1)).length = L.length - (p + 1)) := Lib.hid ⟨by rw [List.length_take]; omega, by rw [List.length_drop]⟩
  obtain ⟨n, Hn⟩ : ∃ n, Hid (L.length = n) := ⟨_, Lib.hid rfl⟩
  rw [Hn.out] at hc hlen hnc Hp
  have hpn : p < n := Hp.out
  unfold maxLen at hcm
  clear h hi hz0 hz1 hz2 hcells hp
  obtain ⟨Z, HZ⟩ : ∃ Z, Hid (w.heap.size = Z) := ⟨_, Lib.hid rfl⟩
  go_enter Try.func34, Try.ntmps34
  go_wp2_with (at_builtin; refine wpList_append_own _ rfl _ _ 27 rfl Z 35 i0 (.agg #[.int .i64 0, .int .i64 0, .string ByteArray.empty]) 3 32 Try.underlying27 Hi.out Hz0.out Hz1.out Hz2.out rfl (by decide) (.slice none 0 0) 0 [] rfl (World.ownsRow_nil _ _ _ _) ⟨g, 0, none⟩ p cap (pc (L.take p)) ?x0 Hc1.out ?c1 (pc_all' _) ?c3 ?c4 ?c5 ?_)
  case x0 => rfl
  case c1 => intro j u hj; rw [Go.WideShapes.add_plain, Nat.zero_add]; exact Hcells.out j u (pc_take L p j u hj)
  case c3 => unfold maxLen; omega
  case c4 => omega
  case c5 => have := HZ.out; omega
  intro v1 w1 hown1 hgrow1 _
  have HM1 := Lib.hid (mod_grown hgrow1)
  have hc1 : w1.cell? ⟨c, 0, none⟩ = some (.slice (some ⟨g, 0, none⟩) n cap) := (HM1.out.cell (p := ⟨c, 0, none⟩) Hh.out.lt (by simp [Value.ownBlock])).trans hc
  have f1 : w1.frozen? ⟨c, 0, none⟩ = false := (HM1.out.frozen (p := ⟨c, 0, none⟩) Hh.out.lt (by simp [Value.ownBlock])).trans Hh.out.free
  have Hcells1 : Hid (∀ j u, (pc L)[j]? = some u → w1.cell? ⟨g, j, none⟩ = some u) := Lib.hid (fun j u hj => (HM1.out.cell (p := ⟨g, j, none⟩) hgs (by simp [Value.ownBlock])).trans (Hcells.out j u hj))
  have hps1 : Ps Z w1 v1 (L.take p) := by unfold Ps; rw [Hl1.out.1]; simpa using hown1
  obtain ⟨a1, cap1, e1⟩ := hps1.slice
  rw [Hl1.out.1] at e1
  subst e1
  have Hown1 : Hid (w1.ownsRow Z 35 3 (.slice a1 p cap1) p (pc (L.take p))) := Lib.hid (by simpa using hown1)
  have Hnew1 : Hid (∀ x, (Value.slice a1 p cap1).ownBlock = some x → Z ≤ x ∧ x < w1.heap.size) := Lib.hid (fun x hx => World.ownsRow.lt Hown1.out x hx)
  clear hps1 hown1 hgrow1 hc
  by_cases hcap : cap = p + 1
  · subst hcap
    obtain rfl : n = p + 1 := by omega
    have hd : L.drop (p + 1) = [] := List.drop_eq_nil_of_le (by rw [Hn.out]; exact Nat.le_refl _)
    go_wp2_with (at_builtin; refine wpList_append_own _ rfl _ _ 27 rfl Z 35 i0 (.agg #[.int .i64 0, .int .i64 0, .string ByteArray.empty]) 3 32 Try.underlying27 Hi.out Hz0.out Hz1.out Hz2.out rfl (by decide) (.slice a1 p cap1) p (pc (L.take p)) rfl Hown1.out ⟨g, 0, none⟩ 0 0 (pc (L.drop (p + 1))) ?x0 ?c0 ?c1 (pc_all' _) ?c3 ?c4 ?c5 ?_)
    case x0 => rfl
    case c0 => rw [Hc2.out, Hn.out]; simp
    case c1 => intro j u hj; rw [hd] at hj; simp [pc] at hj
    case c3 => unfold maxLen; omega
    case c4 => omega
    case c5 => have := HM1.out.size; have := HZ.out; omega
    intro v2 w2 hown2 hgrow2 _
    have HM2 := Lib.hid (mod_grown hgrow2)
    have hc2 : w2.cell? ⟨c, 0, none⟩ = some (.slice (some ⟨g, 0, none⟩) (p + 1) (p + 1)) := (HM2.out.cell (p := ⟨c, 0, none⟩) (lt_of_cell hc1) (fun e => by have := Hnew1.out c e; have := Hh.out.lt; have := HZ.out; omega)).trans hc1
    have f2 : w2.frozen? ⟨c, 0, none⟩ = false := (HM2.out.frozen (p := ⟨c, 0, none⟩) (lt_of_cell hc1) (fun e => by have := Hnew1.out c e; have := Hh.out.lt; have := HZ.out; omega)).trans f1
    have hps2 : Ps Z w2 v2 (L.eraseIdx p) := by
      rw [He.out]
      unfold Ps
      rw [List.length_append, Hl1.out.1, Hl1.out.2, pc_append, Hn.out]
      rw [hd]; simpa using hown2
    have Hps2 := Lib.hid hps2
    have Hmod2 : Hid (Mod (fun _ => False) w w2) := Lib.hid ⟨HM2.out.os.trans HM1.out.os, HM2.out.tape.trans HM1.out.tape, HM2.out.output.trans HM1.out.output, Nat.le_trans HM1.out.size HM2.out.size, fun k hk _ => (HM2.out.block k (Nat.lt_of_lt_of_le hk HM1.out.size) (fun e => by have := Hnew1.out _ e; have := HZ.out; omega)).trans (HM1.out.block k hk (by simp [Value.ownBlock]))⟩
    clear hps2 hown2 hgrow2 hc1 f1
    obtain ⟨a2, cap2, rfl⟩ := Hps2.out.slice
    go_wp2
    refine bodyPost_end (results_none rfl _ _ _) rfl ⟨rfl, _, ⟨set_same hc2, set_frozen f2, (Hps2.out.weak (by have := HZ.out; omega)).later (S := (· = c)) ((Mod.refl _ _).set1 _) (fun x hx e => by have := (Hps2.out.own hx).1; have := Hh.out.lt; have := HZ.out; omega), fun e => by have := (Hps2.out.own e).1; have := Hh.out.lt; have := HZ.out; omega, by rw [List.length_eraseIdx]; have := Hh.out.len; split <;> omega⟩, (Hmod2.out.mono (T := fun x => x = c ∨ _ = some x) (fun _ _ h => h.elim)).setCell (.inl (.inl rfl)) _, fun x hx => .inr (by have := (Hps2.out.own hx).1; have := HZ.out; omega)⟩
  · have hcap2 : 0 < cap - (p + 1) := by omega
    go_wp2_with (at_builtin; refine wpList_append_own _ rfl _ _ 27 rfl Z 35 i0 (.agg #[.int .i64 0, .int .i64 0, .string ByteArray.empty]) 3 32 Try.underlying27 Hi.out Hz0.out Hz1.out Hz2.out rfl (by decide) (.slice a1 p cap1) p (pc (L.take p)) rfl Hown1.out ⟨g, (p + 1) * 3, none⟩ (n - (p + 1)) (cap - (p + 1)) (pc (L.drop (p + 1))) ?x0 ?c0 ?c1 (pc_all' _) ?c3 ?c4 ?c5 ?_)
    case x0 => rfl
    case c0 => rw [Hc2.out, Hn.out]
    case c1 => intro j u hj; rw [Go.WideShapes.add_plain]; exact Hcells1.out _ u (pc_drop L (p + 1) j (by rw [Hn.out]; omega) u hj)
    case c3 => unfold maxLen; omega
    case c4 => omega
    case c5 => have := HM1.out.size; have := HZ.out; omega
    intro v2 w2 hown2 hgrow2 _
    have HM2 := Lib.hid (mod_grown hgrow2)
    have hc2 : w2.cell? ⟨c, 0, none⟩ = some (.slice (some ⟨g, 0, none⟩) n cap) := (HM2.out.cell (p := ⟨c, 0, none⟩) (lt_of_cell hc1) (fun e => by have := Hnew1.out c e; have := Hh.out.lt; have := HZ.out; omega)).trans hc1
    have f2 : w2.frozen? ⟨c, 0, none⟩ = false := (HM2.out.frozen (p := ⟨c, 0, none⟩) (lt_of_cell hc1) (fun e => by have := Hnew1.out c e; have := Hh.out.lt; have := HZ.out; omega)).trans f1
    have hps2 : Ps Z w2 v2 (L.eraseIdx p) := by
      rw [He.out]
      unfold Ps
      rw [List.length_append, Hl1.out.1, Hl1.out.2, pc_append, Hn.out]
      first | exact hown2 | simpa using hown2
    have Hps2 := Lib.hid hps2
    have Hmod2 : Hid (Mod (fun _ => False) w w2) := Lib.hid ⟨HM2.out.os.trans HM1.out.os, HM2.out.tape.trans HM1.out.tape, HM2.out.output.trans HM1.out.output, Nat.le_trans HM1.out.size HM2.out.size, fun k hk _ => (HM2.out.block k (Nat.lt_of_lt_of_le hk HM1.out.size) (fun e => by have := Hnew1.out _ e; have := HZ.out; omega)).trans (HM1.out.block k hk (by simp [Value.ownBlock]))⟩
    clear hps2 hown2 hgrow2 hc1 f1
    obtain ⟨a2, cap2, rfl⟩ := Hps2.out.slice
    go_wp2
    refine bodyPost_end (results_none rfl _ _ _) rfl ⟨rfl, _, ⟨set_same hc2, set_frozen f2, (Hps2.out.weak (by have := HZ.out; omega)).later (S := (· = c)) ((Mod.refl _ _).set1 _) (fun x hx e => by have := (Hps2.out.own hx).1; have := Hh.out.lt; have := HZ.out; omega), fun e => by have := (Hps2.out.own e).1; have := Hh.out.lt; have := HZ.out; omega, by rw [List.length_eraseIdx]; have := Hh.out.len; split <;> omega⟩, (Hmod2.out.mono (T := fun x => x = c ∨ _ = some x) (fun _ _ h => h.elim)).setCell (.inl (.inl rfl)) _, fun x hx => .inr (by have := (Hps2.out.own hx).1; have := HZ.out; omega)⟩
end Go.Proofs.Ytakhhpakajafkaa
