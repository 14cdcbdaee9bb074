/- Those who wait are served. -/
import Derived.Test.YthpmodohfjjjcaaWt9
namespace Go.Proofs.Ythpmodohfjjjcaa
open Go.RowKit

def givesM (h l : List Cl) : List Cl := l.foldl giveM h
/-- Those who are served. -/
def srv : List Cl → List Cl → List Cl
  | _, [] => []
  | h, c :: ws => if fitsM h c then c :: srv (giveM h c) ws else []
theorem gives_length : ∀ (l h : List Cl), (givesM h l).length ≤ h.length + l.length
  | [], h => by simp [givesM]
  | c :: l, h => by
    have h1 := gives_length l (giveM h c)
    have h2 := giveM_length h c
    show (givesM (giveM h c) l).length ≤ _
    rw [List.length_cons]
    omega
theorem gives_snoc (h l : List Cl) (c : Cl) : givesM h (l ++ [c]) = giveM (givesM h l) c := by simp [givesM]
theorem srv_at : ∀ (ws h : List Cl) (k : Nat), srv h ws = ws.take k ++ srv (givesM h (ws.take k)) (ws.drop k) → ∀ c, ws[k]? = some c → (fitsM (givesM h (ws.take k)) c = true → srv h ws = ws.take (k + 1) ++ srv (givesM h (ws.take (k + 1))) (ws.drop (k + 1))) ∧ (fitsM (givesM h (ws.take k)) c = false → srv h ws = ws.take k) := by
  intro ws h k hs c hc
  obtain ⟨hk, e⟩ := List.getElem?_eq_some_iff.1 hc
  have hd : ws.drop k = c :: ws.drop (k + 1) := by rw [List.drop_eq_getElem_cons hk, e]
  have ht : ws.take (k + 1) = ws.take k ++ [c] := by rw [List.take_succ_eq_append_getElem hk, e]
  rw [hd] at hs
  refine ⟨fun hf => ?_, fun hf => ?_⟩
  · rw [ht, gives_snoc, hs, srv, if_pos hf, List.append_assoc]
    rfl
  · rw [hs, srv, hf]
    simp
theorem srv_end (ws h : List Cl) (k : Nat) (hk : ws.length ≤ k) (hs : srv h ws = ws.take k ++ srv (givesM h (ws.take k)) (ws.drop k)) : srv h ws = ws.take k := by
  rw [List.drop_eq_nil_of_le hk, srv, List.append_nil] at hs
  exact hs
set_option maxHeartbeats 1000000 in
set_option maxRecDepth 100000 in
theorem serve_any (w : World) (L : Nat) (v1 v2 : Value) (h ws : List Cl) (x : Ln w L v1 v2 h ws) (hn : h.length ≤ 100) (hn2 : ws.length ≤ 100) :
    Calls Try.prog 84 #[.pointer (some ⟨L, 0, none⟩)] w fun e w' => ∃ T v1' v2', e = .returned T ∧ Done w w' L v1 v2 v1' v2' T (givesM h (srv h ws)) (ws.drop (srv h ws).length) (srv h ws) := by
  have X := Lib.hid x
  have hl := x.lt
  obtain ⟨A2, c2, e2, _, i2⟩ := x.waits.slice
  obtain ⟨n, Hn⟩ : ∃ n, Hid (ws.length = n) := ⟨_, Lib.hid rfl⟩
  rw [Hn.out] at e2 hn2 i2
  have HI2 := Lib.hid i2
  have He2 := Lib.hid e2
  have t1 := x.c1
  rw [e2] at t1
  clear x e2 i2
  go_enter Try.func84, Try.ntmps84
  go_wp2
  go_step3
  go_wp2
  go_step3
  go_wp2
  rw [show Value.int .i64 0 = Value.int .i64 ((0 : Nat) : Int) from rfl]
  go_loopw [3, 5, 11, 15] (fun T _ i _ wr => ∃ (k : Nat) (v1' T0 : Value), i = .int .i64 (k : Int) ∧ T0 = T ∧ k ≤ n ∧ Hid (Ln wr L v1' v2 (givesM h (ws.take k)) ws) ∧ Hid (RC wr T0 (ws.take k)) ∧ Hid (∀ g, blk T0 = some g → w.heap.size ≤ g ∧ g ≠ L ∧ blk v1' ≠ some g ∧ blk v2 ≠ some g) ∧
      Hid (Mod (fun g => g = L ∨ blk v1 = some g ∨ blk v2 = some g) w wr) ∧ Hid (Nb w v1 v1') ∧ Hid (srv h ws = ws.take k ++ srv (givesM h (ws.take k)) (ws.drop k))) (fun _ _ i _ _ => n - (intOf i).toNat)
  case atStart => exact ⟨0, v1, _, rfl, rfl, by omega, Lib.hid X.out, Lib.hid (RC.nil _), Lib.hid (fun g hg => by cases hg), Lib.hid (Mod.refl _ _), Lib.hid (.inl rfl), Lib.hid (by simp [givesM])⟩
  case round =>
    obtain ⟨k, v1', T0, rfl, rfl, hk, HL, HT, HTa, HM, HN1, HSk0⟩ := hrel
    have HTl : Hid ((ws.take k).length = k) := Lib.hid (by rw [List.length_take, Hn.out]; omega)
    by_cases hlt : k < n
    · obtain ⟨c, hc⟩ : ∃ c, ws[k]? = some c := ⟨_, List.getElem?_eq_getElem (by rw [Hn.out]; exact hlt)⟩
      have Hc := Lib.hid hc
      have Hsa := Lib.hid (srv_at ws h k HSk0.out c hc)
      have hwc := HL.out.waits.wf c (List.mem_of_getElem? hc)
      have Hwc := Lib.hid hwc
      obtain ⟨A', c', e', _, i'⟩ := HL.out.waits.slice
      rw [He2.out, Hn.out] at e'
      injection e' with e1 e4 e3
      rw [← e1, Hn.out] at i'
      subst e3
      obtain ⟨g, off, eA, hg, hcs⟩ := i'.cells (by omega)
      subst eA
      obtain ⟨c0, c1⟩ := hcs k c hc
      clear e1 e4 i' hcs hc hwc
      obtain ⟨hk', Hhk⟩ : ∃ x, Hid (givesM h (ws.take k) = x) := ⟨_, Lib.hid rfl⟩
      have Hlen : Hid (hk'.length ≤ 800) := Lib.hid (by
        have h1 := gives_length (ws.take k) h
        rw [Hhk.out, HTl.out] at h1
        omega)
      rw [Hhk.out] at HL Hsa
      obtain ⟨Ah, ch, eh, _, ih⟩ := HL.out.has.slice
      obtain ⟨nh, Hnh⟩ : ∃ x, Hid (hk'.length = x) := ⟨_, Lib.hid rfl⟩
      rw [Hnh.out] at eh ih
      subst eh
      have Hih := Lib.hid ih
      have hkn : (k : Int) < (n : Int) := by omega
      obtain ⟨pa, Hpa⟩ : ∃ x, Hid (wr.heap.size = x) := ⟨_, Lib.hid rfl⟩
      obtain ⟨Wa, HWa⟩ : ∃ x, Hid (wr.alloc (.cells #[.int .i64 c.1, .int .i64 c.2] 61) = x) := ⟨_, Lib.hid rfl⟩
      have HBa : Hid (Below wr.heap.size wr Wa) := Lib.hid (by rw [← HWa.out]; exact balloc (Below.refl _ _) _)
      have HLa := Lib.hid (HL.out.below HBa.out)
      have Hpl : Hid (pa < Wa.heap.size) := Lib.hid (by rw [← HWa.out, ← Hpa.out]; simp)
      have Ha0 : Hid (Wa.cell? ⟨pa, 0, none⟩ = some (.int .i64 c.1)) := Lib.hid (by rw [← HWa.out, ← Hpa.out]; simp [go_sem])
      have Ha1 : Hid (Wa.cell? ⟨pa, 1, none⟩ = some (.int .i64 c.2)) := Lib.hid (by rw [← HWa.out, ← Hpa.out]; simp [go_sem])
      clear ih
      go_wp2_with fail
      rw [HWa.out, Hpa.out]
      clear c0 c1
      have q0 : ∀ y : In (Abv Wa), y.u.cell? ⟨L, 0, none⟩ = some (.slice Ah nh ch) := fun y => (y.is.cell (p := ⟨L, 0, none⟩) HLa.out.lt).trans HLa.out.c0
      have q1 : ∀ y : In (Abv Wa), y.u.cell? ⟨pa, 0, none⟩ = some (.int .i64 c.1) := fun y => (y.is.cell (p := ⟨pa, 0, none⟩) Hpl.out).trans Ha0.out
      have q2 : ∀ y : In (Abv Wa), y.u.cell? ⟨pa, 1, none⟩ = some (.int .i64 c.2) := fun y => (y.is.cell (p := ⟨pa, 1, none⟩) Hpl.out).trans Ha1.out
      refine wp_region_mix (by kernel_rfl) (Cls (Abv Wa)) [(0, 0), (1, 0), (2, 0), (3, 0), (4, 0), (5, 1), (6, 0)] (by kernel_rfl) (cls (Below.refl _ Wa).drew) ?_
      repeat (refine mix0 rfl (fun K hK => ?_); go_simp; refine hK _ ?_; clear hK K)
      refine mix1 rfl (fun K hK => ?_)
      go_simp
      obtain ⟨F, HF⟩ : ∃ x, Hid (fitsM hk' c = x) := ⟨_, Lib.hid rfl⟩
      refine (fits_any Wa.drew Ah nh ch hk' ((Hih.out.below HBa.out).below (drew_same _)) c).mono ?_
      rw [HF.out]
      rintro e Wb ⟨rfl, hb⟩
      have HBb : Hid (Abv Wa Wb) := Lib.hid (bnext (drew_same Wa) hb)
      clear hb
      refine ⟨_, rfl, hK _ _ (cls HBb.out) ?_⟩
      clear hK K
      repeat (refine mix0 rfl (fun K hK => ?_); go_simp; refine hK _ ?_; clear hK K)
      refine mixEnd ?_
      clear q0 q1 q2
      have HLb := Lib.hid (HLa.out.below HBb.out)
      have HBw : Hid (Below wr.heap.size wr Wb) := Lib.hid (bnext HBa.out HBb.out)
      rw [HF.out] at Hsa
      cases F
      · have HSk : Hid (srv h ws = ws.take k) := Lib.hid (Hsa.out.2 rfl)
        obtain ⟨v1', Hv1⟩ : ∃ x, x = Value.slice Ah nh ch := ⟨_, rfl⟩
        rw [← Hv1] at HLb HTa HN1
        have HT2 := Lib.hid (HT.out.below HBw.out)
        have HM2 := Lib.hid (HM.out.trans (Mod.of_below HBw.out))
        clear HLa HL HT HM Hv1
        have HL := HLb
        have HT := HT2
        have HM := HM2
        rw [← Hhk.out] at HL
        clear HLb HT2 HM2
        clear Ha0 Ha1
        obtain ⟨AT, cT, eT, _, _⟩ := HT.out.slice
        rw [HTl.out] at eT
        subst eT
        have d0 := HL.out.c1
        have d1 := HL.out.f1
        go_wp2_with fail
        refine (Delete_any Wb v2 ws HL.out.waits k (by have := Hn.out; omega)).mono ?_
        rintro e w7 ⟨v7, rfl, r7, b7, m7⟩
        obtain ⟨A7, c7, e7, _, _⟩ := r7.slice
        obtain ⟨l7, Hl7⟩ : ∃ l3, Hid (ws.drop k = l3) := ⟨_, Lib.hid rfl⟩
        rw [Hl7.out] at e7 r7
        obtain ⟨n7, Hn7⟩ : ∃ n3, Hid (l7.length = n3) := ⟨_, Lib.hid rfl⟩
        rw [Hn7.out] at e7
        subst e7
        have R7 := Lib.hid r7
        have B7 := Lib.hid b7
        have M7 := Lib.hid m7
        have s0 := (m7.cell (p := ⟨L, 1, none⟩) HL.out.lt HL.out.d2).trans HL.out.c1
        have s1 := (m7.frozen (p := ⟨L, 1, none⟩) HL.out.lt HL.out.d2).trans HL.out.f1
        have HLE := Lib.hid (HL.out.waits' M7.out R7.out (.inl B7.out))
        have HTE : Hid (RC (w7.setCell ⟨L, 1, none⟩ (.slice A7 n7 c7)) (.slice AT k cT) (ws.take k)) := Lib.hid ((HT.out.later M7.out (fun g hg => (HTa.out g hg).2.2.2)).later ((Mod.refl (· = L) w7).set1 _) (fun g hg => (HTa.out g hg).2.1))
        have HTa2 : Hid (∀ g, blk (.slice AT k cT) = some g → w.heap.size ≤ g ∧ g ≠ L ∧ blk v1' ≠ some g ∧ blk (.slice A7 n7 c7) ≠ some g) := Lib.hid (fun g hg => ⟨(HTa.out g hg).1, (HTa.out g hg).2.1, (HTa.out g hg).2.2.1, by rw [B7.out]; exact (HTa.out g hg).2.2.2⟩)
        have HME := Lib.hid ((HM.out.trans (M7.out.mono fun g _ hg => (.inr (.inr hg) : g = L ∨ blk v1 = some g ∨ blk v2 = some g))).setCell (.inl (.inl rfl)) (p := ⟨L, 1, none⟩) (.slice A7 n7 c7))
        clear r7 b7 m7 d0 d1
        go_wp2
        rw [Exit.noGoto_ret]
        go_ret
        refine ⟨.slice AT k cT, v1', .slice A7 n7 c7, rfl, ?_⟩
        have hS : srv h ws = ws.take k := HSk.out
        rw [hS, List.length_take, Nat.min_eq_left (by have := Hn.out; omega), Hl7.out]
        exact ⟨HLE.out, HTE.out, HTa2.out, HME.out, HN1.out, .inl B7.out⟩
      · have b0 := (HBb.out.cell (p := ⟨pa, 0, none⟩) Hpl.out).trans Ha0.out
        have b1 := (HBb.out.cell (p := ⟨pa, 1, none⟩) Hpl.out).trans Ha1.out
        have Hsn := Lib.hid (Hsa.out.1 rfl)
        go_wp2_with fail
        refine (give_any Wb L (.slice Ah nh ch) v2 hk' ws HLb.out c Hwc.out Hlen.out).mono ?_
        rintro e W6 ⟨rfl, v6, x6, m6, n6⟩
        have X6 := Lib.hid x6
        have M6 := Lib.hid m6
        have N6 := Lib.hid n6
        have hpaL : pa ≠ L := by have := HL.out.lt; have := Hpa.out; omega
        have hpav : blk (.slice Ah nh ch) ≠ some pa := fun e => by have := HL.out.has.lt e; have := Hpa.out; omega
        have hpb : pa < Wb.heap.size := lt_of_cell b0
        have d0 := (m6.cell (p := ⟨pa, 0, none⟩) hpb (fun e => e.elim hpaL hpav)).trans b0
        have d1 := (m6.cell (p := ⟨pa, 1, none⟩) hpb (fun e => e.elim hpaL hpav)).trans b1
        have hT6 : RC W6 T0 (ws.take k) := (HT.out.below HBw.out).later m6 (fun g hg e => e.elim (HTa.out g hg).2.1 (fun e => (HTa.out g hg).2.2.1 e))
        have hTlt : ∀ g, blk T0 = some g → g < Wb.heap.size := fun g hg => Nat.lt_of_lt_of_le (HT.out.lt hg) HBw.out.size
        obtain ⟨T1, W7, hr7, r7, a7⟩ := appC (hT6.below (balloc (Below.refl _ _) (.cells #[.int .i64 c.1, .int .i64 c.2] 61))) (c := 1) (Sgl.new W6 c Hwc.out).is (by rw [HTl.out]; omega) 55
        have Hr7 := Lib.hid hr7
        have hT2 : ws.take (k + 1) = ws.take k ++ [c] := by
          obtain ⟨hk2, e⟩ := List.getElem?_eq_some_iff.1 Hc.out
          rw [List.take_succ_eq_append_getElem hk2, e]
        have HR7 : Hid (RC W7 T1 (ws.take (k + 1))) := Lib.hid (by rw [hT2]; exact r7)
        have hG : givesM h (ws.take (k + 1)) = giveM hk' c := by rw [hT2, gives_snoc, Hhk.out]
        have hb67 : Below W6.heap.size W6 (W6.alloc (.cells #[.int .i64 c.1, .int .i64 c.2] 61)) := balloc (Below.refl _ _) _
        have hTv6 : ∀ g, blk T0 = some g → blk v6 ≠ some g := fun g hg => n6.not (hTlt g hg) (HTa.out g hg).2.2.1
        have HL7 : Hid (Ln W7 L v6 v2 (givesM h (ws.take (k + 1))) ws) := Lib.hid (by
          rw [hG]
          exact (x6.below hb67).later a7.mod (fun e => (HTa.out L e).2.1 rfl) (fun g hg e => hTv6 g e hg) (fun g hg e => (HTa.out g e).2.2.2 hg))
        have HTa7 : Hid (∀ g, blk T1 = some g → w.heap.size ≤ g ∧ g ≠ L ∧ blk v6 ≠ some g ∧ blk v2 ≠ some g) := Lib.hid (fun g hg => by
          rcases a7.blk with e | ⟨g', e, hg'⟩
          · have hg0 : blk T0 = some g := by rw [← e]; exact hg
            have := HTa.out g hg0
            exact ⟨this.1, this.2.1, hTv6 g hg0, this.2.2.2⟩
          · rw [e] at hg
            injection hg with hg
            subst hg
            have s1 := HM.out.size
            have s2 := HBw.out.size
            have s3 := m6.size
            have s4 := hb67.size
            have l1 := x6.lt
            exact ⟨by omega, by omega, fun e => by have := x6.has.lt e; omega, fun e => by have := x6.waits.lt e; omega⟩)
        have HM7 : Hid (Mod (fun g => g = L ∨ blk v1 = some g ∨ blk v2 = some g) w W7) := Lib.hid (by
          have hw1 : ∀ g, g < w.heap.size → blk (.slice Ah nh ch) = some g → blk v1 = some g := fun g hg e => Classical.byContradiction fun hne => HN1.out.not hg hne e
          have mm : Mod (fun g => g = L ∨ blk v1 = some g ∨ blk v2 = some g ∨ w.heap.size ≤ g) w W7 := (HM.out.mono fun g _ e => e.elim .inl (fun e => e.elim (fun e => .inr (.inl e)) (fun e => .inr (.inr (.inl e))))).trans ((Mod.of_below HBw.out).trans (((m6.mono fun g _ e => e.elim .inl (fun e => by
            rcases Nat.lt_or_ge g w.heap.size with h1 | h1
            · exact .inr (.inl (hw1 g h1 e))
            · exact .inr (.inr (.inr h1)))).trans (Mod.of_below hb67)).trans (a7.mod.mono fun g _ e => .inr (.inr (.inr (HTa.out g e).1)))))
          exact mm.mono fun g hg e => e.elim .inl (fun e => e.elim (fun e => .inr (.inl e)) (fun e => e.elim (fun e => .inr (.inr e)) (fun e => by omega))))
        have HN7 : Hid (Nb w v1 v6) := Lib.hid (Nb.trans HN1.out (Nat.le_trans HM.out.size HBw.out.size) n6)
        clear x6 m6 n6 hpaL hpav hpb hT6 hTlt hr7 r7 a7 hT2 hG hb67 hTv6 b0 b1
        go_wp2_with (at_builtin; refine wpList_append_run rfl (.tmp 25) (.tmp 27) 55 rfl Hr7.out ?_)
        go_roundw
        case rel => exact ⟨k + 1, v6, T1, by go_num, rfl, by omega, HL7, HR7, HTa7, HM7, HN7, Hsn⟩
        case measure => simp [intOf]; omega
    · obtain rfl : k = n := by omega
      have HSk : Hid (srv h ws = ws.take k) := Lib.hid (srv_end ws h k (by rw [Hn.out]; omega) HSk0.out)
      obtain ⟨AT, cT, eT, _, _⟩ := HT.out.slice
      rw [HTl.out] at eT
      subst eT
      have d0 := HL.out.c1
      have d1 := HL.out.f1
      go_wp2_with fail
      refine (Delete_any wr v2 ws HL.out.waits k (by have := Hn.out; omega)).mono ?_
      rintro e w7 ⟨v7, rfl, r7, b7, m7⟩
      obtain ⟨A7, c7, e7, _, _⟩ := r7.slice
      obtain ⟨l7, Hl7⟩ : ∃ l3, Hid (ws.drop k = l3) := ⟨_, Lib.hid rfl⟩
      rw [Hl7.out] at e7 r7
      obtain ⟨n7, Hn7⟩ : ∃ n3, Hid (l7.length = n3) := ⟨_, Lib.hid rfl⟩
      rw [Hn7.out] at e7
      subst e7
      have R7 := Lib.hid r7
      have B7 := Lib.hid b7
      have M7 := Lib.hid m7
      have s0 := (m7.cell (p := ⟨L, 1, none⟩) HL.out.lt HL.out.d2).trans HL.out.c1
      have s1 := (m7.frozen (p := ⟨L, 1, none⟩) HL.out.lt HL.out.d2).trans HL.out.f1
      have HLE := Lib.hid (HL.out.waits' M7.out R7.out (.inl B7.out))
      have HTE : Hid (RC (w7.setCell ⟨L, 1, none⟩ (.slice A7 n7 c7)) (.slice AT k cT) (ws.take k)) := Lib.hid ((HT.out.later M7.out (fun g hg => (HTa.out g hg).2.2.2)).later ((Mod.refl (· = L) w7).set1 _) (fun g hg => (HTa.out g hg).2.1))
      have HTa2 : Hid (∀ g, blk (.slice AT k cT) = some g → w.heap.size ≤ g ∧ g ≠ L ∧ blk v1' ≠ some g ∧ blk (.slice A7 n7 c7) ≠ some g) := Lib.hid (fun g hg => ⟨(HTa.out g hg).1, (HTa.out g hg).2.1, (HTa.out g hg).2.2.1, by rw [B7.out]; exact (HTa.out g hg).2.2.2⟩)
      have HME := Lib.hid ((HM.out.trans (M7.out.mono fun g _ hg => (.inr (.inr hg) : g = L ∨ blk v1 = some g ∨ blk v2 = some g))).setCell (.inl (.inl rfl)) (p := ⟨L, 1, none⟩) (.slice A7 n7 c7))
      clear r7 b7 m7 d0 d1
      go_wp2
      rw [Exit.noGoto_ret]
      go_ret
      refine ⟨.slice AT k cT, v1', .slice A7 n7 c7, rfl, ?_⟩
      have hS : srv h ws = ws.take k := HSk.out
      rw [hS, List.length_take, Nat.min_eq_left (by have := Hn.out; omega), Hl7.out]
      exact ⟨HLE.out, HTE.out, HTa2.out, HME.out, HN1.out, .inl B7.out⟩
end Go.Proofs.Ythpmodohfjjjcaa
