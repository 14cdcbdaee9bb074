/- How a cache is settled, whatever tells which of its writes land. -/
import Derived.Test.YtcahccjlompilaaDiskTo
import Derived.Outline
namespace Go.Proofs.Ytcahccjlompilaa
open Go.RowKit Go.MapKept

/-- What lies behind the first so many writes of a cache, where dec says which of them land. -/
def landed (l : List (List UInt8)) (c : List (Nat × List UInt8)) (dec : Nat → Bool) : Nat → List (List UInt8)
  | 0 => l
  | i + 1 => if dec i = true then (landed l c dec i).set (c.getD i (0, [])).1 (c.getD i (0, [])).2 else landed l c dec i
theorem landed_length (l : List (List UInt8)) (c : List (Nat × List UInt8)) (dec : Nat → Bool) : ∀ i, (landed l c dec i).length = l.length
  | 0 => rfl
  | i + 1 => by unfold landed; split <;> simp [landed_length l c dec i]
theorem landed_yes {l : List (List UInt8)} {c : List (Nat × List UInt8)} {dec : Nat → Bool} {k : Nat} (hk : k < c.length) (h : dec k = true) : landed l c dec (k + 1) = (landed l c dec k).set c[k].1 c[k].2 := by
  rw [landed, if_pos h, List.getD_eq_getElem?_getD, List.getElem?_eq_getElem hk]; rfl
theorem landed_no {l : List (List UInt8)} {c : List (Nat × List UInt8)} {dec : Nat → Bool} {k : Nat} (h : dec k = false) : landed l c dec (k + 1) = landed l c dec k := by
  rw [landed, if_neg (by rw [h]; decide)]
def DS.liesTo (s : DS) (l : List (List UInt8)) : DS := { s with lies := l }
section
variable {w : World} {b n : Nat} {ρ : Nat → Role} {s : DS} {lb kb cb : Nat} {pv : Value} {cf : Int → Option Value}
/-- What settling leaves. -/
def Settled (w : World) (b : Nat) (ρ : Nat → Role) (n : Nat) (s : DS) (Q : Nat → Prop) (R : World → Prop) (e : Ending) (w' : World) : Prop := e = .returned (.tuple #[]) ∧ IsD w' b ρ n s ∧ Mod (fun g => ρ g ≠ .no ∨ Q g) w w' ∧ R w'
set_option maxRecDepth 100000 in
set_option maxHeartbeats 400000 in
theorem settle_any (h : Dk w b ρ n s lb kb cb pv cf) {key : Int} (hk : (Lit.int .i64 key).wf = true) (f : FuncId) (caps : Array Value) (hE : ∀ args w, (callFunc f args).run Try.prog w = .ok (.enter f args) w)
    (dec : Nat → Bool) (L : Nat → World → Prop) (Q : Nat → Prop) (hQ : ∀ g, Q g → ρ g = .no ∧ g < w.heap.size)
    (hL : ∀ i w w', L i w → Mod (fun g => ρ g ≠ .no) w w' → L i w')
    (hcall : ∀ i w, i < (s.caches key).length → L i w → Calls Try.prog f caps w fun e w' => e = .returned (.bool (dec i)) ∧ L (i + 1) w' ∧ Mod Q w w') (h0 : L 0 w) :
    Calls Try.prog 48 #[.pointer (some ⟨b, 0, none⟩), .int .i64 key, .func (.func f) #[] caps] w
      (Settled w b ρ n ((s.liesTo (landed s.lies (s.caches key) dec (s.caches key).length)).cacheTo key []) Q (L (s.caches key).length)) := by
  have c2 := h.c2
  obtain ⟨a, cap, hl, hrow, hcf⟩ := h.lookC hk
  have Hrow := Lib.hid hrow
  have Hcf := Lib.hid hcf
  have Hh := Lib.hid h
  have HL := Lib.hid hL
  have Hcall := Lib.hid hcall
  have H0 := Lib.hid h0
  have HQ := Lib.hid hQ
  obtain ⟨c, Hc⟩ : ∃ c, Hid (s.caches key = c) := ⟨_, Lib.hid rfl⟩
  have hcl : c.length ≤ 1000000 := by have h1 := h.fine.cache key; have := h.fine.small; rw [Hc.out] at h1; omega
  rw [Hc.out] at hl Hrow Hcf Hcall ⊢
  clear hrow hcf h hL hcall h0 hQ
  go_enter Try.func48, Try.ntmps48
  go_wp2
  rw [show Value.int .i64 0 = Value.int .i64 ((0 : Nat) : Int) from rfl]
  go_loopw [15] (fun i wr => ∃ k : Nat, i = .int .i64 (k : Int) ∧ k ≤ c.length ∧ Hid (Dk wr b ρ n (s.liesTo (landed s.lies c dec k)) lb kb cb pv cf) ∧ Hid (L k wr) ∧ Hid (Mod (fun g => ρ g ≠ .no ∨ Q g) w wr)) (fun i _ => c.length - (intOf i).toNat)
  case atStart => exact ⟨0, rfl, Nat.zero_le _, Hh, H0, Lib.hid (Mod.refl _ _)⟩
  case round =>
    obtain ⟨k, rfl, hkc, HD, HLk, HM⟩ := hrel
    by_cases hlt : k < c.length
    · obtain ⟨hcf, g, off, rfl⟩ : cf key = some (.slice a c.length cap) ∧ ∃ g off, a = some ⟨g, off, none⟩ := by
        rcases Hrow.out.is with ⟨_, h0⟩ | ⟨g, off, cap', he, _⟩
        · omega
        · injection he with he _ _
          subst he
          rcases Hcf.out with ⟨_, h1⟩ | h1
          · cases h1
          · exact ⟨h1, g, off, rfl⟩
      obtain ⟨hr, hrole, _⟩ := HD.out.row key _ hcf
      have e0 : (s.liesTo (landed s.lies c dec k)).caches key = c := Hc.out
      rw [e0] at hr
      have hp := cw_get c k c[k] (List.getElem?_eq_getElem hlt)
      rcases hr.is with ⟨he, _⟩ | ⟨g', off', cap', he, hgl, hx1, hx2, hcells, hx3⟩
      · cases he
      injection he with he _ e3
      injection he with he
      injection he with e1 e2 _
      subst e1 e2 e3
      have x0 : wr.cell? ⟨g, off + k * 2, none⟩ = some (.int .i64 (c[k].1 : Int)) := by rw [show off + k * 2 = off + 2 * k by omega]; exact hcells _ _ hp.1
      have x1 : wr.cell? ⟨g, off + k * 2 + 1, none⟩ = some (.string (str c[k].2)) := by rw [show off + k * 2 + 1 = off + (2 * k + 1) by omega]; exact hcells _ _ hp.2
      have hcs := HD.out.fine.cached key c[k] (by rw [e0]; exact List.getElem_mem hlt)
      have Hrole := Lib.hid (hrole g rfl)
      clear hrole hcells hr hp e0 hx1 hx2 hx3
      obtain ⟨W1, HW1⟩ : ∃ W1, Hid (wr.alloc (.cells #[.int .i64 (c[k].1 : Int), .string (str c[k].2)] 76) = W1) := ⟨_, Lib.hid rfl⟩
      have HB1 : Hid (Below wr.heap.size wr W1) := Lib.hid (by rw [← HW1.out]; exact (Below.refl _ _).alloc (Nat.le_refl _) _)
      have HD1 := Lib.hid (HD.out.later (Mod.of_below (S := fun _ => False) HB1.out) (fun _ => False.elim))
      have HL1 := Lib.hid (HL.out k _ _ HLk.out (Mod.of_below HB1.out))
      have y0 : W1.cell? ⟨wr.heap.size, 0, none⟩ = some (.int .i64 (c[k].1 : Int)) := by rw [← HW1.out]; simp [go_sem]
      have y1 : W1.cell? ⟨wr.heap.size, 1, none⟩ = some (.string (str c[k].2)) := by rw [← HW1.out]; simp [go_sem]
      have hnq : ρ wr.heap.size = .no := (IsD.above (s := s.liesTo (landed s.lies c dec k)) ⟨_, _, _, _, _, HD.out⟩ (Nat.le_refl _))
      obtain ⟨q, Hq⟩ : ∃ q, Hid (wr.heap.size = q) := ⟨_, Lib.hid rfl⟩
      have hnQ : ¬ Q q := fun h => by have h1 := (HQ.out q h).2; have h2 := HM.out.size; have h3 := Hq.out; omega
      have HnQ := Lib.hid hnQ
      have hqW : q < W1.heap.size := by rw [← HW1.out]; have := Hq.out; simp; omega
      have HqW := Lib.hid hqW
      have HMW := Lib.hid (HM.out.trans (Mod.of_below (S := fun g => ρ g ≠ .no ∨ Q g) HB1.out))
      rw [Hq.out] at y0 y1
      have Hy0 := Lib.hid y0
      have Hy1 := Lib.hid y1
      clear y0 y1 hnq hnQ hqW
      go_wp2_with fail
      rw [HW1.out]
      refine (Hcall.out k _ hlt HL1.out).mono ?_
      rintro e w2 ⟨rfl, hL2, hM2⟩
      have HL2 := Lib.hid hL2
      have HD2 := Lib.hid (HD1.out.later hM2 (fun g hg => (HQ.out g hg).1))
      have z0 := (hM2.cell (p := ⟨q, 0, none⟩) HqW.out HnQ.out).trans Hy0.out
      have z1 := (hM2.cell (p := ⟨q, 1, none⟩) HqW.out HnQ.out).trans Hy1.out
      have HM2 := Lib.hid (HMW.out.trans (hM2.mono (T := fun g => ρ g ≠ .no ∨ Q g) (fun _ _ h => .inr h)))
      clear hL2 hM2
      have c0 := HD2.out.c0
      obtain ⟨hs1, hs2⟩ := hcs
      have lie := HD2.out.lie _ hs1
      have free := HD2.out.free _ hs1
      have hmany := HD2.out.fine.many
      have hs1' : (c[k].1 : Int) < ((s.liesTo (landed s.lies c dec k)).lies.length : Int) := by omega
      cases hd : dec k with
      | true =>
        have Hd := Lib.hid hd
        clear hd
        rw [Hq.out]
        go_wp2
        go_region
        have HDd := Lib.hid ((HD2.out.later (((Mod.refl (fun _ => False) w2).drew)) (fun _ => False.elim)).lieTo c[k].1 c[k].2 hs2)
        have HMd := Lib.hid ((HM2.out.drew).setCell (p := ⟨lb, c[k].1, none⟩) (.inl (.inl (by rw [Hh.out.rl]; intro e; cases e))) (.string (str c[k].2)))
        have HLd := Lib.hid (HL.out (k + 1) _ _ HL2.out (((Mod.refl (fun g => ρ g ≠ .no) w2).drew).setCell (p := ⟨lb, c[k].1, none⟩) (.inl (by rw [Hh.out.rl]; intro e; cases e)) (.string (str c[k].2))))
        go_wp2
        go_roundw
        case rel => exact ⟨k + 1, by go_num, by omega, by rw [landed_yes hlt Hd.out]; exact HDd, HLd, HMd⟩
        case measure => simp [intOf]; omega
      | false =>
        have Hd := Lib.hid hd
        clear hd
        rw [Hq.out]
        go_wp2
        go_roundw
        case rel => exact ⟨k + 1, by go_num, by omega, by rw [landed_no Hd.out]; exact HD2, HL2, HM2⟩
        case measure => simp [intOf]; omega
    · obtain rfl : k = c.length := by omega
      have d2 := HD.out.c2
      go_wp2_with (at_delete; refine wpList_delete_map _ rfl (.tmp 34) (.tmp 35) 65 rfl 74 Try.underlying65 cb n cf rfl HD.out.cach key rfl hk ?_; intro w2 hm hmod hsz)
      have Hm := Lib.hid hm
      have Hmod := Lib.hid hmod
      clear hm hmod hsz
      go_wp2
      go_end0
      refine ⟨rfl, ⟨_, _, _, _, _, HD.out.cacheNone Hmod.out Hm.out⟩, HM.out.trans (Hmod.out.mono fun g _ e => .inl ?_), HL.out _ _ _ HLk.out (Hmod.out.mono fun g _ e => ?_)⟩
      all_goals
        subst e
        rw [Hh.out.rc]; intro e; cases e
end
end Go.Proofs.Ytcahccjlompilaa
