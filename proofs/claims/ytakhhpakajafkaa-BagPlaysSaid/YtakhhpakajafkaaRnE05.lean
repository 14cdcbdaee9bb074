/- What the document's network does: Void, All. -/
import Derived.Test.YtakhhpakajafkaaRnC05
namespace Go.Proofs.Ytakhhpakajafkaa
open Go.RowKit

/-- A row of the call's own grows by one that is built. -/
structure Grow (w : World) (Z : Nat) (wr : World) (v : Value) (l : List Pcl) : Prop where
  ps : Ps Z wr v l
  below : Below w.heap.size w wr
theorem Grow.start (w : World) (Z : Nat) : Grow w Z w (.slice none 0 0) [] := ⟨Ps.nil _ _, Below.refl _ _⟩
theorem Grow.more {w wr w4 : World} {Z : Nat} {v v' : Value} {l : List Pcl} {q : Pcl} {o : Obj} (h : Grow w Z wr v l) (hZ : w.heap.size = Z) (hown : w4.ownsRow Z 35 3 v' (l.length + 1) (pc l ++ pc1 q)) (hg : (wr.alloc o).grownBy w4 v.ownBlock) : Grow w Z w4 v' (l ++ [q]) := by
  refine ⟨?_, ?_⟩
  · unfold Ps
    rw [List.length_append, pc_append, pc_one]
    exact hown
  · have hM := mod_grown hg
    exact (Mod.below (S := fun x => v.ownBlock = some x) (balloc h.below o) hM (by have := h.below.size; simp; omega) (fun x hx => by have := (h.ps.own hx).1; omega))
set_option maxRecDepth 100000 in
set_option maxHeartbeats 1000000 in
theorem VoidR_any {w : World} {B c : Nat} {v : Value} {L : List Pcl} (h : RN w B c v L) (hB : B ≤ w.heap.size) (d : Int) :
    Calls Try.prog 20 #[.pointer (some ⟨c, 0, none⟩), .int .i64 d] w (RDid w B c v (L.filter (farB d)) (.int .i64 ((L.length - (L.filter (farB d)).length : Nat) : Int))) := by
  obtain ⟨a, cap, rfl⟩ := h.row.slice
  obtain ⟨i0, hi, hz0, hz1, hz2⟩ := info_parts infoP
  have Hi := Lib.hid hi
  have Hz0 := Lib.hid hz0
  have Hz1 := Lib.hid hz1
  have Hz2 := Lib.hid hz2
  have Hh := Lib.hid h
  have hlen := h.len
  have Hend : Hid ((L.take L.length).filter (farB d) = L.filter (farB d)) := Lib.hid (by rw [List.take_length])
  obtain ⟨n, Hn⟩ : ∃ n, Hid (L.length = n) := ⟨_, Lib.hid rfl⟩
  rw [Hn.out] at hlen Hend
  obtain ⟨Z, HZ⟩ : ∃ Z, Hid (w.heap.size = Z) := ⟨_, Lib.hid rfl⟩
  obtain ⟨G, HG⟩ : ∃ G, Hid (L.filter (farB d) = G) := ⟨_, Lib.hid rfl⟩
  rw [HG.out] at Hend ⊢
  have Hle : Hid (∀ k, ((L.take k).filter (farB d)).length ≤ k) := Lib.hid (fun k => Nat.le_trans (List.length_filter_le _ _) (by rw [List.length_take]; omega))
  clear h hi hz0 hz1 hz2
  go_enter Try.func20, Try.ntmps20
  rw [Hn.out]
  go_wp2
  go_loopw [5, 6] (fun lv iv wr => ∃ k : Nat, iv = .int .i64 (k : Int) ∧ k ≤ n ∧ Hid (Grow w Z wr lv ((L.take k).filter (farB d)))) (fun _ iv _ => n - (intOf iv).toNat)
  case atStart => exact ⟨0, rfl, Nat.zero_le _, Lib.hid (by simpa using Grow.start w Z)⟩
  case round =>
    obtain ⟨k, rfl, hk, HGr⟩ := hrel
    have Hr : Hid (RN wr B c (.slice a L.length cap) L) := Lib.hid (Hh.out.below HGr.out.below)
    have hc := Hr.out.cell
    rw [Hn.out] at hc
    by_cases hlt : k < n
    · have hlt' : (k : Int) < (n : Int) := by omega
      obtain ⟨g, c1, e1, _, a0, a1, a2⟩ := Hr.out.row.cells (i := k) (by rw [Hn.out]; exact hlt)
      injection e1 with e1 _ e1c
      subst e1 e1c
      have Hs := Lib.hid (filter_next (farB d) (L := L) (k := k) (by rw [Hn.out]; exact hlt))
      obtain ⟨p, Hp⟩ : ∃ p, Hid (L[k]'(by rw [Hn.out]; exact hlt) = p) := ⟨_, Lib.hid rfl⟩
      rw [Hp.out] at a0 a1 a2 Hs
      have hlk := Hle.out k
      obtain ⟨l, Hl⟩ : ∃ l, Hid ((L.take k).filter (farB d) = l) := ⟨_, Lib.hid rfl⟩
      rw [Hl.out] at HGr Hs hlk
      obtain ⟨al, capl, hlv⟩ := HGr.out.ps.slice
      subst hlv
      cases q1 : (p.1 == d) with
      | true =>
        have q1' : (p.1 != d) = false := by rw [bne, q1]; rfl
        have HM2 : Hid ((L.take (k + 1)).filter (farB d) = l) := Lib.hid (by rw [Hs.out, farB, q1]; simp)
        clear Hs
        go_wp2
        go_roundw
        case rel => exact ⟨k + 1, by go_num, by omega, by rw [HM2.out]; exact HGr⟩
        case measure => simp [intOf]; omega
      | false =>
        have q1' : (p.1 != d) = true := by rw [bne, q1]; rfl
        cases q2 : (p.2.1 == d) with
        | true =>
          have q2' : (p.2.1 != d) = false := by rw [bne, q2]; rfl
          have HM2 : Hid ((L.take (k + 1)).filter (farB d) = l) := Lib.hid (by rw [Hs.out, farB, q1, q2]; simp)
          clear Hs
          go_wp2
          go_roundw
          case rel => exact ⟨k + 1, by go_num, by omega, by rw [HM2.out]; exact HGr⟩
          case measure => simp [intOf]; omega
        | false =>
          have q2' : (p.2.1 != d) = true := by rw [bne, q2]; rfl
          have HM2 : Hid ((L.take (k + 1)).filter (farB d) = l ++ [p]) := Lib.hid (by rw [Hs.out, farB, q1, q2]; simp)
          clear Hs
          go_wp2_with (at_builtin; refine wpList_append_own _ rfl _ _ 27 rfl Z 35 i0 (.agg #[.int .i64 0, .int .i64 0, .string ByteArray.empty]) 3 32 Try.underlying27 Hi.out Hz0.out Hz1.out Hz2.out rfl (by decide) (.slice al l.length capl) l.length (pc l) rfl (HGr.out.ps.below (balloc (Below.refl _ _) _)) ⟨wr.heap.size, 0, none⟩ 1 1 (pc1 p) rfl rfl (pc_at wr p _) (pc_one' _) ?c3 ?c4 ?c5 ?_)
          case c3 => unfold maxLen; omega
          case c4 => omega
          case c5 => have := HGr.out.below.size; have := HZ.out; simp; omega
          intro v' w4 hown' hgrow' _
          have HGr4 := Lib.hid (HGr.out.more HZ.out hown' hgrow')
          clear hown' hgrow'
          go_wp2
          go_roundw
          case rel => exact ⟨k + 1, by go_num, by omega, by rw [HM2.out]; exact HGr4⟩
          case measure => simp [intOf]; omega
    · obtain rfl : k = n := by omega
      rw [Hend.out] at HGr
      have hGn : G.length ≤ k := by rw [← HG.out, ← Hn.out]; exact List.length_filter_le _ _
      obtain ⟨al, capl, hlv⟩ := HGr.out.ps.slice
      subst hlv
      have f1 := Hr.out.free
      have e3 : (k : Int) - (G.length : Int) = ((k - G.length : Nat) : Int) := by omega
      have HHr : Hid (RN (wr.setCell ⟨c, 0, none⟩ (.slice al G.length capl)) B c (.slice al G.length capl) G) := Lib.hid ⟨set_same hc, set_frozen f1, (HGr.out.ps.weak (by have := HZ.out; omega)).later (S := (· = c)) ((Mod.refl _ _).set1 _) (fun x hx e => by have := (HGr.out.ps.own hx).1; have := Hh.out.lt; have := HZ.out; omega), fun e => by have := (HGr.out.ps.own e).1; have := Hh.out.lt; have := HZ.out; omega, by omega⟩
      have HMd : Hid (Mod (fun x => x = c ∨ (Value.slice a L.length cap).ownBlock = some x) w (wr.setCell ⟨c, 0, none⟩ (.slice al G.length capl))) := Lib.hid ((Mod.of_below HGr.out.below).setCell (.inl (.inl rfl)) _)
      have Hnew : Hid (∀ g, (Value.slice al G.length capl).ownBlock = some g → (Value.slice a L.length cap).ownBlock = some g ∨ w.heap.size ≤ g) := Lib.hid (fun x hx => .inr (by have := (HGr.out.ps.own hx).1; have := HZ.out; omega))
      go_wp2
      go_ret
      exact ⟨ret_int (by omega), _, HHr.out, by rw [← Hn.out]; exact HMd.out, by rw [← Hn.out]; exact Hnew.out⟩
/-- All, link by link. -/
def allR (L : List Pcl) : Nat → List Pcl
  | 0 => []
  | k + 1 => allR L k ++ L.filter (onB ((k / 8 : Nat) : Int) ((k % 8 : Nat) : Int))
theorem allR_le (L : List Pcl) : ∀ n, (allR L n).length ≤ n * L.length
  | 0 => by simp [allR]
  | n + 1 => by
    have h1 := allR_le L n
    have h2 := List.length_filter_le (onB ((n / 8 : Nat) : Int) ((n % 8 : Nat) : Int)) L
    rw [allR, List.length_append, Nat.add_mul]
    omega
set_option maxRecDepth 100000 in
set_option maxHeartbeats 2000000 in
theorem AllR_any {w : World} {B c : Nat} {v : Value} {L : List Pcl} (h : RN w B c v L) (hall : ∀ n, n ≤ 64 → (allR L n).length ≤ 20000) :
    Calls Try.prog 26 #[.pointer (some ⟨c, 0, none⟩)] w (Parcels w (allR L 64)) := by
  obtain ⟨a, cap, rfl⟩ := h.row.slice
  obtain ⟨i0, hi, hz0, hz1, hz2⟩ := info_parts infoP
  have Hi := Lib.hid hi
  have Hz0 := Lib.hid hz0
  have Hz1 := Lib.hid hz1
  have Hz2 := Lib.hid hz2
  have Hh := Lib.hid h
  have Hall := Lib.hid hall
  have hlen := h.len
  have Hend : Hid (∀ i j : Int, (L.take L.length).filter (onB i j) = L.filter (onB i j)) := Lib.hid (fun i j => by rw [List.take_length])
  obtain ⟨n, Hn⟩ : ∃ n, Hid (L.length = n) := ⟨_, Lib.hid rfl⟩
  rw [Hn.out] at hlen Hend
  obtain ⟨Z, HZ⟩ : ∃ Z, Hid (w.heap.size = Z) := ⟨_, Lib.hid rfl⟩
  have Hle : Hid (∀ (i j : Int) k, ((L.take k).filter (onB i j)).length ≤ k) := Lib.hid (fun i j k => Nat.le_trans (List.length_filter_le _ _) (by rw [List.length_take]; omega))
  obtain ⟨A, HA⟩ : ∃ A, Hid (allR L = A) := ⟨_, Lib.hid rfl⟩
  have Hnext : Hid (∀ f t, t < 8 → A (8 * f + t + 1) = A (8 * f + t) ++ L.filter (onB (f : Int) (t : Int))) := Lib.hid (fun f t ht => by
    rw [← HA.out, allR]
    congr 3 <;> omega)
  rw [HA.out] at Hall ⊢
  have hA0 : A 0 = [] := by rw [← HA.out]; rfl
  have HA0 := Lib.hid hA0
  clear h hi hz0 hz1 hz2 hall hA0
  go_enter Try.func26, Try.ntmps26
  go_wp2
  go_loopw [3, 4] (fun ov fv wr => ∃ f : Nat, fv = .int .i64 (f : Int) ∧ f ≤ 8 ∧ Hid (Grow w Z wr ov (A (8 * f)))) (fun _ fv _ => 8 - (intOf fv).toNat)
  case atStart => exact ⟨0, rfl, Nat.zero_le _, Lib.hid (by rw [Nat.mul_zero, HA0.out]; exact Grow.start w Z)⟩
  case round =>
    obtain ⟨f, rfl, hf, HGr⟩ := hrel
    by_cases hf8 : f < 8
    · have hf8' : (f : Int) < 8 := by omega
      go_wp2
      go_loopw [3, 5] (fun ov tv wr => ∃ t : Nat, tv = .int .i64 (t : Int) ∧ t ≤ 8 ∧ Hid (Grow w Z wr ov (A (8 * f + t)))) (fun _ tv _ => 8 - (intOf tv).toNat)
      case atStart => exact ⟨0, rfl, Nat.zero_le _, HGr⟩
      case round =>
        obtain ⟨t, rfl, ht, HGr⟩ := hrel
        by_cases ht8 : t < 8
        · have ht8' : (t : Int) < 8 := by omega
          have hAl := Hall.out (8 * f + t) (by omega)
          have HN := Lib.hid (Hnext.out f t ht8)
          have HLe := Lib.hid (Hle.out f t)
          have HEnd := Lib.hid (Hend.out f t)
          obtain ⟨A1, HA1⟩ : ∃ l, Hid (A (8 * f + t) = l) := ⟨_, Lib.hid rfl⟩
          rw [HA1.out] at HGr HN hAl
          go_wp2
          go_loopw [3, 6] (fun ov iv wr => ∃ k : Nat, iv = .int .i64 (k : Int) ∧ k ≤ n ∧ Hid (Grow w Z wr ov (A1 ++ (L.take k).filter (onB (f : Int) (t : Int))))) (fun _ iv _ => n - (intOf iv).toNat)
          case atStart => exact ⟨0, rfl, Nat.zero_le _, Lib.hid (by simpa using HGr.out)⟩
          case round =>
            obtain ⟨k, rfl, hk, HGk⟩ := hrel
            have Hr : Hid (RN wr B c (.slice a L.length cap) L) := Lib.hid (Hh.out.below HGk.out.below)
            have hc := Hr.out.cell
            rw [Hn.out] at hc
            by_cases hlt : k < n
            · have hlt' : (k : Int) < (n : Int) := by omega
              obtain ⟨g, c1, e1, _, a0, a1, a2⟩ := Hr.out.row.cells (i := k) (by rw [Hn.out]; exact hlt)
              injection e1 with e1 _ e1c
              subst e1 e1c
              have Hs := Lib.hid (filter_next (onB (f : Int) (t : Int)) (L := L) (k := k) (by rw [Hn.out]; exact hlt))
              obtain ⟨p, Hp⟩ : ∃ p, Hid (L[k]'(by rw [Hn.out]; exact hlt) = p) := ⟨_, Lib.hid rfl⟩
              rw [Hp.out] at a0 a1 a2 Hs
              have hlk : (A1 ++ (L.take k).filter (onB (f : Int) (t : Int))).length ≤ 40000 := by rw [List.length_append]; have := HLe.out k; omega
              obtain ⟨l, Hl⟩ : ∃ l, Hid (A1 ++ (L.take k).filter (onB (f : Int) (t : Int)) = l) := ⟨_, Lib.hid rfl⟩
              rw [Hl.out] at HGk hlk
              obtain ⟨al, capl, hlv⟩ := HGk.out.ps.slice
              subst hlv
              cases q1 : (p.1 == (f : Int)) with
              | false =>
                have HM2 : Hid (A1 ++ (L.take (k + 1)).filter (onB (f : Int) (t : Int)) = l) := Lib.hid (by rw [Hs.out, onB, q1, ← Hl.out]; simp)
                clear Hs
                go_wp2
                go_roundw
                case rel => exact ⟨k + 1, by go_num, by omega, by rw [HM2.out]; exact HGk⟩
                case measure => simp [intOf]; omega
              | true =>
                cases q2 : (p.2.1 == (t : Int)) with
                | false =>
                  have HM2 : Hid (A1 ++ (L.take (k + 1)).filter (onB (f : Int) (t : Int)) = l) := Lib.hid (by rw [Hs.out, onB, q1, q2, ← Hl.out]; simp)
                  clear Hs
                  go_wp2
                  go_roundw
                  case rel => exact ⟨k + 1, by go_num, by omega, by rw [HM2.out]; exact HGk⟩
                  case measure => simp [intOf]; omega
                | true =>
                  have HM2 : Hid (A1 ++ (L.take (k + 1)).filter (onB (f : Int) (t : Int)) = l ++ [p]) := Lib.hid (by rw [Hs.out, onB, q1, q2, ← Hl.out]; simp)
                  clear Hs
                  go_wp2_with (at_builtin; refine wpList_append_own _ rfl _ _ 27 rfl Z 35 i0 (.agg #[.int .i64 0, .int .i64 0, .string ByteArray.empty]) 3 32 Try.underlying27 Hi.out Hz0.out Hz1.out Hz2.out rfl (by decide) (.slice al l.length capl) l.length (pc l) rfl (HGk.out.ps.below (balloc (Below.refl _ _) _)) ⟨wr.heap.size, 0, none⟩ 1 1 (pc1 p) rfl rfl (pc_at wr p _) (pc_one' _) ?c3 ?c4 ?c5 ?_)
                  case c3 => unfold maxLen; omega
                  case c4 => omega
                  case c5 => have := HGk.out.below.size; have := HZ.out; simp; omega
                  intro v' w4 hown' hgrow' _
                  have HGr4 := Lib.hid (HGk.out.more HZ.out hown' hgrow')
                  clear hown' hgrow'
                  go_wp2
                  go_roundw
                  case rel => exact ⟨k + 1, by go_num, by omega, by rw [HM2.out]; exact HGr4⟩
                  case measure => simp [intOf]; omega
            · obtain rfl : k = n := by omega
              rw [HEnd.out, ← HN.out] at HGk
              go_wp2
              go_roundw
              case rel => exact ⟨t + 1, by go_num, by omega, HGk⟩
              case measure => simp [intOf]; omega
        · obtain rfl : t = 8 := by omega
          go_wp2
          go_roundw
          case rel => exact ⟨f + 1, by go_num, by omega, HGr⟩
          case measure => simp [intOf]; omega
    · obtain rfl : f = 8 := by omega
      go_wp2
      go_ret
      exact ⟨_, rfl, by rw [HZ.out]; exact HGr.out.ps, HGr.out.below⟩
end Go.Proofs.Ytakhhpakajafkaa
