/- A file or a folder is made. -/
import Derived.Test.YtiomhdanmcnaeaaGreatDoorMa16
namespace Go.Proofs.YtiomhdanmcnaeaaGreatDoor
open Go.RowKit

theorem rep_no2 : ∀ x, rep0[2]? ≠ some (.map x) := fun x h => by cases h
theorem rep_nohe : ∀ (o : Nat) (x : ByteArray) (y : Int), rep0[o]? = some (.string x) → rep0[o + 1]? = some (.int .i64 y) → False := by
  intro o x y h1 h2
  match o, h1, h2 with
  | 0, h1, _ => cases h1
  | 1, _, h2 => cases h2
  | 2, h1, _ => cases h1
  | 3, h1, _ => cases h1
  | 4, h1, _ => cases h1
  | 5, h1, _ => cases h1
  | 6, h1, _ => cases h1
  | o + 7, h1, _ => simp at h1
theorem thg_no2 (a b : Int) (s : List UInt8) : ∀ x, (#[.int .i64 a, .int .i64 b, .string (str s)] : Array Value)[2]? ≠ some (.map x) := fun x h => by cases h
theorem thg_nohe (a b : Int) (s : List UInt8) : ∀ (o : Nat) (x : ByteArray) (y : Int), (#[.int .i64 a, .int .i64 b, .string (str s)] : Array Value)[o]? = some (.string x) → (#[.int .i64 a, .int .i64 b, .string (str s)] : Array Value)[o + 1]? = some (.int .i64 y) → False := by
  intro o x y h1 h2
  match o, h1, h2 with
  | 0, h1, _ => cases h1
  | 1, h1, _ => cases h1
  | 2, _, h2 => simp at h2
  | o + 3, h1, _ => simp at h1
theorem IsT.notOwn {w : World} {b n : Nat} {mt ml : Option Nat} {T : Tr} (h : IsT w b mt ml n T) {p : Nat} {cs : Array Value} {t : TypeId} (hx : BoxC w p cs t) (h2 : ∀ x, cs[2]? ≠ some (.map x)) : ¬ OwnT b mt ml p := by
  intro ho
  rcases ho with e | e | e
  · subst e
    have h3 := h.c2
    rw [show w.cell? ⟨p, 2, none⟩ = cs[2]? by simp [World.cell?, hx.blk]] at h3
    exact h2 mt h3
  · have h3 := h.th
    rw [e] at h3
    obtain ⟨es, cl, h4, _⟩ : IsMapK intD w p n _ := h3
    rw [hx.blk] at h4; cases h4
  · obtain ⟨g, h5, _⟩ := h.ls
    rw [e] at h5
    obtain ⟨es, cl, h4, _⟩ : IsMapK plD w p n g := h5
    rw [hx.blk] at h4; cases h4
/-- What is new turns besides. -/
theorem Turn.fresh {w u v : World} {b : Nat} {mt ml mt1 ml1 : Option Nat} (h : Turn w u b mt ml mt1 ml1) {p : Nat} (m : Mod (· = p) u v) (hp : w.heap.size ≤ p) : Turn w v b mt ml mt1 ml1 :=
  ⟨⟨m.os.trans h.mod.os, m.tape.trans h.mod.tape, m.output.trans h.mod.output, Nat.le_trans h.mod.size m.size, fun i hi hn => (m.block i (Nat.lt_of_lt_of_le hi h.mod.size) (by omega)).trans (h.mod.block i hi hn)⟩, h.nt, h.nl⟩
theorem IsT.more {w : World} {b n n' : Nat} {mt ml : Option Nat} {T : Tr} (h : IsT w b mt ml n T) (hn : n ≤ n') : IsT w b mt ml n' T := by
  obtain ⟨g, h1, h2⟩ := h.ls
  have k1 : MapO intD w mt n' (fun k => (T.th k).map thV) := by
    have := h.th
    cases mt with
    | none => exact this
    | some r => exact IsMapK.mono this hn
  have k2 : MapO plD w ml n' g := by
    cases ml with
    | none => exact h1
    | some r => exact IsMapK.mono h1 hn
  exact ⟨h.c0, h.c1, h.c2, h.c3, h.fr, k1, ⟨g, k2, h2⟩, h.bt, h.bl, h.tl, h.p0⟩
def Tr.roomN (T : Tr) (Y : List (List UInt8)) (s : List UInt8) (beside : Int) : Int := T.roomE (T.spotP Y s) ((T.size (T.spotP Y s) : Int) + ((s.length : Int) + 6)) beside
/-- What is told of a new name, with so many sectors beside. -/
def Tr.newE (T : Tr) (Y : List (List UInt8)) (s : List UInt8) (beside : Int) : Int := if T.vacE Y s = 0 then T.roomN Y s beside else T.vacE Y s
def Tr.newT (T : Tr) (Y : List (List UInt8)) (s : List UInt8) (op : Int) : Tr := ((({ T with last := T.last + 1 } : Tr).setP (T.last + 1) (if op = 2 then 2 else 1, 1, [])).putP (T.spotP Y s) s (T.last + 1))
/-- A new name finds its list as it was when it was asked for. -/
theorem newE_fits {T : Tr} {Y : List (List UInt8)} {s : List UInt8} {beside : Int} (h : T.newE Y s beside = 0) (k : Int) : sizeN (putN (T.list (T.spotP Y s)) (s, k)) ≤ 6144 ∧ (findN (T.list (T.spotP Y s)) s).2 = false ∧ T.spotE Y = 0 := by
  unfold Tr.newE at h
  split at h
  · next h0 =>
    unfold Tr.vacE at h0
    split at h0
    · cases h0
    · next hn =>
      have hf : (findN (T.list (T.spotP Y s)) s).2 = false := by
        cases hq : (findN (T.list (T.spotP Y s)) s).2 with
        | false => rfl
        | true => exact absurd ⟨h0, hq⟩ hn
      refine ⟨?_, hf, h0⟩
      rw [putN_new hf]
      unfold Tr.roomN Tr.roomE at h
      split at h
      · cases h
      · next hs => unfold Tr.size at hs; omega
  · next h0 => exact absurd h h0
theorem newT_ok {T : Tr} {c : Nat} (h : TokC T c) (hc : c + 3 ≤ 1000000) {Y : List (List UInt8)} {s : List UInt8} {beside : Int} (hE : T.newE Y s beside = 0) (hs : 1 ≤ s.length ∧ s.length ≤ 1000) (op : Int) : TokC (T.newT Y s op) (c + 3) := by
  have h1 := h.next (by omega)
  have h2 := h1.set (by omega) (T.last + 1) (if op = 2 then 2 else 1, 1, []) (fun _ => ⟨by simp, by simp, by simp, by by_cases h : op = 2 <;> simp [h]⟩)
  refine h2.put (by omega) (T.spotP Y s) s (T.last + 1) hs (newE_fits hE (T.last + 1)).1 ⟨by have := h.last; omega, Int.le_refl _⟩
section
variable {w : World} {b n : Nat} {mt ml : Option Nat} {T : Tr}
set_option maxRecDepth 100000 in
set_option maxHeartbeats 8000000 in
theorem create_any {c : Nat} (h : IsT w b mt ml n T) (ht : TokC T c) (hc : c + 3 ≤ 1000000) (hn : n + 10 < 100000000) (cl : Cal) (A : Option Addr) (k cc : Nat) (Y : List (List UInt8)) (s : List UInt8) (hX : IsG w 1 encT A (k + 1) (Y ++ [s])) (hkc : k + 1 ≤ cc) (hs : ∀ x ∈ Y ++ [s], 1 ≤ x.length ∧ x.length ≤ 1000) (B : Option Addr) (m d : Nat) (th : Int) :
    Calls Tryz.prog 29 #[.pointer (some ⟨b, 0, none⟩), askV cl (.slice A (k + 1) cc) (.slice B m d) th] w fun e w' => e = .returned (repV (repE (T.newE Y s 1))) ∧ ∃ mt' ml', IsT w' b mt' ml' (n + 2) (if T.newE Y s 1 = 0 then T.newT Y s cl.op else T) ∧ Turn w w' b mt ml mt' ml' := by
  have HX0 := Lib.hid hX
  have H := Lib.hid h
  have Ht := Lib.hid ht
  have Hs := Lib.hid (fun x hx => (hs x hx).2)
  have hsl := hs s (by simp)
  have HPw := Lib.hid (spotP_wf ht.tok Y s)
  have hlast := ht.tok.last
  clear h ht hX hs
  obtain ⟨E, HE⟩ : ∃ r, Hid (T.newE Y s 1 = r) := ⟨_, Lib.hid rfl⟩
  obtain ⟨T2, HT2⟩ : ∃ r, Hid ((if T.newE Y s 1 = 0 then T.newT Y s cl.op else T) = r) := ⟨_, Lib.hid rfl⟩
  obtain ⟨P, HP⟩ : ∃ r, Hid (T.spotP Y s = r) := ⟨_, Lib.hid rfl⟩
  obtain ⟨V, HV⟩ : ∃ r, Hid (T.vacE Y s = r) := ⟨_, Lib.hid rfl⟩
  obtain ⟨S, HS⟩ : ∃ r : Nat, Hid (T.size P = r) := ⟨_, Lib.hid rfl⟩
  have hS : S ≤ 6144 := by rw [← HS.out]; exact (Ht.out.tok.list P).1.size
  obtain ⟨R, HR⟩ : ∃ r, Hid (T.roomE P ((S : Int) + ((s.length : Int) + 6)) 1 = r) := ⟨_, Lib.hid rfl⟩
  have HE2 : Hid (E = if V = 0 then R else V) := Lib.hid (by rw [← HE.out, Tr.newE, HV.out, Tr.roomN, HP.out, HS.out, HR.out])
  rw [HP.out] at HPw
  rw [HT2.out, HE.out]
  have hw1 : IntKind.i64.wrap ((S : Int) + ((s.length : Int) + 6)) = (S : Int) + ((s.length : Int) + 6) := IntWalk.i64_in _ (by omega)
  have hw2 : IntKind.i64.wrap (T.last + 1) = T.last + 1 := IntWalk.i64_in _ (by omega)
  go_enter Tryz.func29, Tryz.ntmps29
  go_upto_region 1 with (fail)
  obtain ⟨w1, Hw1⟩ : ∃ u, Hid (w.alloc (.cells (askC cl (.slice A (k + 1) cc) (.slice B m d) th) 49) = u) := ⟨_, Lib.hid rfl⟩
  obtain ⟨q, Hq⟩ : ∃ u, Hid (w.heap.size = u) := ⟨_, Lib.hid rfl⟩
  have HX1 : Hid (BoxC w1 q (askC cl (.slice A (k + 1) cc) (.slice B m d) th) 49) := Lib.hid (by rw [← Hw1.out, ← Hq.out]; exact BoxC.new w _ _)
  have B1 : Hid (Below w.heap.size w w1) := Lib.hid (by rw [← Hw1.out]; exact balloc (Below.refl _ _) _)
  obtain ⟨w2, Hw2⟩ : ∃ u, Hid (w1.alloc (.cells rep0 29) = u) := ⟨_, Lib.hid rfl⟩
  obtain ⟨p, Hp⟩ : ∃ u, Hid (w.heap.size + 1 = u) := ⟨_, Lib.hid rfl⟩
  have hp1 : w1.heap.size = p := by rw [← Hw1.out, ← Hp.out]; simp
  have HR2 : Hid (BoxC w2 p rep0 29) := Lib.hid (by rw [← Hw2.out, ← hp1]; exact BoxC.new w1 _ _)
  have hb2 : Below w1.heap.size w1 w2 := by rw [← Hw2.out]; exact balloc (Below.refl _ _) _
  have B2 := Lib.hid (bnext B1.out hb2)
  have X2 := Lib.hid (HX1.out.below hb2)
  clear hb2
  have H2 := Lib.hid (H.out.below B2.out)
  rw [Hw1.out, Hw2.out, Hp.out, Hq.out]
  have x6 := X2.out.cell 6 rfl
  go_wp2_with fail
  clear x6
  refine (vacant_any H2.out Ht.out.tok A k cc Y s (HX0.out.below B2.out) hkc Hs.out).mono ?_
  rw [HP.out, HV.out]
  rintro e w3 ⟨rfl, hb⟩
  have B3 : Hid (Below w.heap.size w w3) := Lib.hid (bnext B2.out hb)
  have R3 := Lib.hid (HR2.out.below hb)
  have X3 := Lib.hid (X2.out.below hb)
  clear hb
  go_upto_region 2 with (fail)
  obtain ⟨w4, Hw4⟩ : ∃ u, Hid (w3.alloc (.cells #[.int .i64 P.1, .int .i64 P.2, .string (str s)] 96) = u) := ⟨_, Lib.hid rfl⟩
  obtain ⟨r, Hr⟩ : ∃ u, Hid (w3.heap.size = u) := ⟨_, Lib.hid rfl⟩
  have S4 : Hid (BoxC w4 r #[.int .i64 P.1, .int .i64 P.2, .string (str s)] 96) := Lib.hid (by rw [← Hw4.out, ← Hr.out]; exact BoxC.new w3 _ _)
  have hb4 : Below w3.heap.size w3 w4 := by rw [← Hw4.out]; exact balloc (Below.refl _ _) _
  have B4 := Lib.hid (bnext B3.out hb4)
  have R4 := Lib.hid (R3.out.below hb4)
  have X4 := Lib.hid (X3.out.below hb4)
  have H4 := Lib.hid (H.out.below B4.out)
  clear hb4
  rw [Hw4.out, Hr.out]
  go_upto_if 16 with (fail)
  go_cut [6] (fun v wx => v = .int .i64 E ∧ Hid (Below w4.heap.size w4 wx))
  case first =>
    by_cases hv : V = 0
    · have he : E = R := by simpa [hv] using HE2.out
      subst hv
      subst he
      go_upto_region 3 with (fail)
      have k0 : ∀ y : In (Abv w4), y.u.cell? ⟨r, 0, none⟩ = some (.int .i64 P.1) := fun y => (S4.out.below y.is).cell 0 rfl
      have k1 : ∀ y : In (Abv w4), y.u.cell? ⟨r, 1, none⟩ = some (.int .i64 P.2) := fun y => (S4.out.below y.is).cell 1 rfl
      have k2 : ∀ y : In (Abv w4), y.u.cell? ⟨r, 2, none⟩ = some (.string (str s)) := fun y => (S4.out.below y.is).cell 2 rfl
      refine wp_region_mix (by kernel_rfl) (Cls (Abv w4)) [(0, 0), (1, 0), (2, 0), (3, 0), (4, 0), (5, 0), (7, 0), (8, 0), (6, 1), (9, 1), (10, 0), (11, 1), (12, 0)] (by kernel_rfl) (cls (Below.refl _ _).drew) ?_
      repeat (refine mix0 rfl (fun K hK => ?_); go_simp; refine hK _ ?_; clear hK K)
      refine mix1 rfl (fun K hK => ?_)
      go_simp
      refine (size_any (H4.out.below (Below.refl _ w4).drew) P HPw.out.1 HPw.out.2 (Ht.out.tok.list P).1).mono ?_
      rw [HS.out]
      rintro e w5 ⟨rfl, hb⟩
      have B5 : Hid (Below w4.heap.size w4 w5) := Lib.hid ((Below.refl _ _).drew.trans hb)
      clear hb
      refine ⟨_, rfl, hK _ _ (cls B5.out) ?_⟩
      clear hK K
      repeat (refine mix0 rfl (fun K hK => ?_); go_simp; refine hK _ ?_; clear hK K)
      refine mix1 rfl (fun K hK => ?_)
      go_simp
      refine (long_any s hsl.2 _).mono ?_
      rintro e w6 ⟨rfl, hb⟩
      have B6 : Hid (Below w4.heap.size w4 w6) := Lib.hid (bnext B5.out hb)
      clear hb
      refine ⟨_, rfl, hK _ _ (cls B6.out) ?_⟩
      clear hK K
      repeat (refine mix0 rfl (fun K hK => ?_); go_simp; refine hK _ ?_; clear hK K)
      refine mix1 rfl (fun K hK => ?_)
      go_simp
      refine (room_any (H4.out.below B6.out) Ht.out.tok P HPw.out.1 HPw.out.2 ((S : Int) + ((s.length : Int) + 6)) 1 (by omega) (by omega)).mono ?_
      rw [HR.out]
      rintro e w7 ⟨rfl, hb⟩
      have B7 : Hid (Below w4.heap.size w4 w7) := Lib.hid (bnext B6.out hb)
      clear hb
      refine ⟨_, rfl, hK _ _ (cls B7.out) ?_⟩
      clear hK K
      repeat (refine mix0 rfl (fun K hK => ?_); go_simp; refine hK _ ?_; clear hK K)
      refine mixEnd ?_
      clear k0 k1 k2
      go_wp2
      go_meet
      exact ⟨rfl, B7⟩
    · have hq : (V == 0) = false := by simpa using hv
      have he : E = V := by simpa [hv] using HE2.out
      subst he
      clear hv
      go_wp2
      go_meet
      exact ⟨rfl, Lib.hid (Below.refl _ _)⟩
  case rest =>
    obtain ⟨rfl, C0⟩ := hcut
    have B5 := Lib.hid (bnext B4.out C0.out)
    have R5 := Lib.hid (R4.out.below C0.out)
    have X5 := Lib.hid (X4.out.below C0.out)
    have S5 := Lib.hid (S4.out.below C0.out)
    have H5 := Lib.hid (H4.out.below C0.out)
    obtain ⟨w5, Hw5⟩ : ∃ u, Hid (wc = u) := ⟨_, Lib.hid rfl⟩
    rw [Hw5.out] at B5 R5 X5 S5 H5
    rw [Hw5.out]
    clear C0
    by_cases he : E = 0
    · have hT2 : T2 = T.newT Y s cl.op := by rw [← HT2.out, HE.out, if_pos he]
      have Hfit := Lib.hid (newE_fits (T := T) (Y := Y) (s := s) (beside := 1) (by rw [HE.out]; exact he) (T.last + 1))
      rw [HP.out] at Hfit
      subst he
      have hop : (if cl.op = 2 then (2 : Int) else 1) = if cl.op = 2 then 2 else 1 := rfl
      obtain ⟨kd, Hkd⟩ : ∃ x : Int, Hid ((if cl.op = 2 then (2 : Int) else 1) = x) := ⟨_, Lib.hid rfl⟩
      have Hnew : Hid (T.newT Y s cl.op = (({ T with last := T.last + 1 } : Tr).setP (T.last + 1) (kd, 1, [])).putP P s (T.last + 1)) := Lib.hid (by rw [Tr.newT, HP.out, Hkd.out])
      have C1 := Lib.hid (Ht.out.next (by omega))
      have C2 : Hid (TokC (({ T with last := T.last + 1 } : Tr).setP (T.last + 1) (kd, 1, [])) (c + 2)) := Lib.hid (C1.out.set (by omega) (T.last + 1) (kd, 1, []) (fun _ => ⟨by simp, by simp, by simp, by rw [← Hkd.out]; by_cases h : cl.op = 2 <;> simp [h]⟩))
      have C3 : Hid (TokC (T.newT Y s cl.op) (c + 3)) := Lib.hid (newT_ok Ht.out hc HE.out hsl cl.op)
      clear hop
      go_upto_region 7 with (fail)
      obtain ⟨w6, Hw6⟩ : ∃ u, Hid (w5.alloc (.cells #[.int .i64 1, .int .i64 1, .string (str [])] 65) = u) := ⟨_, Lib.hid rfl⟩
      obtain ⟨a, Ha⟩ : ∃ u, Hid (w5.heap.size = u) := ⟨_, Lib.hid rfl⟩
      have A6 : Hid (BoxC w6 a #[.int .i64 1, .int .i64 1, .string (str [])] 65) := Lib.hid (by rw [← Hw6.out, ← Ha.out]; exact BoxC.new w5 _ _)
      have hb6 : Below w5.heap.size w5 w6 := by rw [← Hw6.out]; exact balloc (Below.refl _ _) _
      have B6 := Lib.hid (bnext B5.out hb6)
      have R6 := Lib.hid (R5.out.below hb6)
      have X6 := Lib.hid (X5.out.below hb6)
      have S6 := Lib.hid (S5.out.below hb6)
      have H6 := Lib.hid (H5.out.below hb6)
      clear hb6
      have hpa : p ≠ a := by have := R5.out.lt; have := Ha.out; omega
      have hra : r ≠ a := by have := S5.out.lt; have := Ha.out; omega
      rw [Hw6.out, Ha.out]
      have x0 := X6.out.cell 0 rfl
      go_upto_if 37 with (fail)
      clear x0
      go_cut [7] (fun v wx => v = .pointer (some ⟨a, 0, none⟩) ∧ Hid (BoxC wx a #[.int .i64 kd, .int .i64 1, .string (str [])] 65) ∧ Hid (Mod (· = a) w6 wx))
      case first =>
        have a0 := A6.out.cell 0 rfl
        have af := A6.out.free 0
        by_cases h2 : cl.op = 2
        · have hq : (cl.op == 2) = true := by simpa using h2
          have hk2 : kd = 2 := by rw [← Hkd.out, if_pos h2]
          have A7 := Lib.hid (A6.out.put 0 (.int .i64 2))
          subst hk2
          clear h2
          go_wp2
          go_meet
          exact ⟨rfl, A7, Lib.hid ((Mod.refl _ w6).set1 _)⟩
        · have hq : (cl.op == 2) = false := by simpa using h2
          have hk2 : kd = 1 := by rw [← Hkd.out, if_neg h2]
          subst hk2
          clear h2
          go_wp2
          go_meet
          exact ⟨rfl, A6, Lib.hid (Mod.refl _ w6)⟩
      case rest =>
        obtain ⟨rfl, A7, M7⟩ := hcut
        obtain ⟨w7, Hw7⟩ : ∃ u, Hid (wc = u) := ⟨_, Lib.hid rfl⟩
        rw [Hw7.out] at A7 M7
        rw [Hw7.out]
        have R7 := Lib.hid (R6.out.kept M7.out hpa)
        have S7 := Lib.hid (S6.out.kept M7.out hra)
        have H7 := Lib.hid (H6.out.box Ht.out.ne M7.out A6.out (thg_no2 1 1 []) (thg_nohe 1 1 []))
        have T7 : Hid (Turn w w7 b mt ml mt ml) := Lib.hid (Turn.below b mt ml (bmod B6.out M7.out (by have := Ha.out; have := B5.out.size; omega)))
        have c1 := H7.out.c1
        have f1 := H7.out.fr 1 (by omega)
        go_upto_region 10 with (fail)
        clear c1 f1
        have hpo := H7.out.notOwn R7.out rep_no2
        have hro := H7.out.notOwn S7.out (fun x h => by cases h)
        have hao := H7.out.notOwn A7.out (thg_no2 kd 1 [])
        obtain ⟨w8, Hw8⟩ : ∃ u, Hid (w7.setCell ⟨b, 1, none⟩ (.int .i64 (T.last + 1)) = u) := ⟨_, Lib.hid rfl⟩
        have M8 : Hid (Mod (· = b) w7 w8) := Lib.hid (by rw [← Hw8.out]; exact (Mod.refl _ w7).set1 _)
        have R8 := Lib.hid (R7.out.kept M8.out (fun e => hpo (.inl e)))
        have S8 := Lib.hid (S7.out.kept M8.out (fun e => hro (.inl e)))
        have A8 := Lib.hid (A7.out.kept M8.out (fun e => hao (.inl e)))
        have H8 : Hid (IsT w8 b mt ml n { T with last := T.last + 1 }) := Lib.hid (by rw [← Hw8.out]; exact H7.out.setLast _)
        have T8 := Lib.hid (T7.out.trans (turn_own mt ml M8.out))
        rw [Hw8.out]
        have k1 : ∀ y : In (Abv w8), y.u.cell? ⟨b, 1, none⟩ = some (.int .i64 (T.last + 1)) := fun y => (H8.out.below y.is).c1
        have a0 : ∀ y : In (Abv w8), y.u.cell? ⟨a, 0, none⟩ = some (.int .i64 kd) := fun y => (A8.out.below y.is).cell 0 rfl
        have a1 : ∀ y : In (Abv w8), y.u.cell? ⟨a, 1, none⟩ = some (.int .i64 1) := fun y => (A8.out.below y.is).cell 1 rfl
        have a2 : ∀ y : In (Abv w8), y.u.cell? ⟨a, 2, none⟩ = some (.string (str [])) := fun y => (A8.out.below y.is).cell 2 rfl
        refine wp_region_mix (by kernel_rfl) (Cls (Abv w8)) [(0, 0), (1, 0), (2, 0), (3, 0), (4, 0), (5, 0), (6, 2)] (by kernel_rfl) (cls (Below.refl _ _).drew) ?_
        repeat (refine mix0 rfl (fun K hK => ?_); go_simp; refine hK _ ?_; clear hK K)
        refine mix2 rfl (fun K hK => ?_)
        go_simp
        refine (set_any (H8.out.below (Below.refl _ w8).drew) C1.out.tok.free (by omega) (T.last + 1) (wf_of (by omega)) (kd, 1, []) (by simp) (fun y hy => C1.out.data hy)).mono ?_
        rintro e w9 ⟨rfl, mt1, h9, t9⟩
        have H9 := Lib.hid h9
        have T89 : Hid (Turn w8 w9 b mt ml mt1 ml) := Lib.hid ((Turn.below b mt ml (Below.refl _ w8).drew).trans t9)
        clear h9 t9
        refine ⟨_, rfl, hK _ _ ?_⟩
        clear hK K k1 a0 a1 a2
        refine mixEnd ?_
        have R9 := Lib.hid (R8.out.kept T89.out.mod hpo)
        have S9 := Lib.hid (S8.out.kept T89.out.mod hro)
        have T9 := Lib.hid (T8.out.trans T89.out)
        have hpo9 := H9.out.notOwn R9.out rep_no2
        go_upto_region 11 with (fail)
        have k1 : ∀ y : In (Abv w9), y.u.cell? ⟨b, 1, none⟩ = some (.int .i64 (T.last + 1)) := fun y => (H9.out.below y.is).c1
        have s0 : ∀ y : In (Abv w9), y.u.cell? ⟨r, 0, none⟩ = some (.int .i64 P.1) := fun y => (S9.out.below y.is).cell 0 rfl
        have s1 : ∀ y : In (Abv w9), y.u.cell? ⟨r, 1, none⟩ = some (.int .i64 P.2) := fun y => (S9.out.below y.is).cell 1 rfl
        have s2 : ∀ y : In (Abv w9), y.u.cell? ⟨r, 2, none⟩ = some (.string (str s)) := fun y => (S9.out.below y.is).cell 2 rfl
        refine wp_region_mix (by kernel_rfl) (Cls (Abv w9)) [(0, 0), (1, 0), (2, 0), (3, 0), (4, 0), (5, 0), (6, 2)] (by kernel_rfl) (cls (Below.refl _ _).drew) ?_
        repeat (refine mix0 rfl (fun K hK => ?_); go_simp; refine hK _ ?_; clear hK K)
        refine mix2 rfl (fun K hK => ?_)
        go_simp
        refine (put_any (H9.out.below (Below.refl _ w9).drew) C2.out.tok (by omega) P s (T.last + 1) HPw.out.1 HPw.out.2 hsl Hfit.out.1).mono ?_
        rintro e w10 ⟨rfl, ml1, h10, t10⟩
        have H10 : Hid (IsT w10 b mt1 ml1 (n + 2) (T.newT Y s cl.op)) := Lib.hid (by rw [Hnew.out]; exact h10)
        have T910 : Hid (Turn w9 w10 b mt1 ml mt1 ml1) := Lib.hid ((Turn.below b mt1 ml (Below.refl _ w9).drew).trans t10)
        clear h10 t10
        refine ⟨_, rfl, hK _ _ ?_⟩
        clear hK K k1 s0 s1 s2
        refine mixEnd ?_
        have R10 := Lib.hid (R9.out.kept T910.out.mod hpo9)
        have T10 := Lib.hid (T9.out.trans T910.out)
        have f0 := R10.out.free 0
        have f1 := R10.out.free 1
        have f2 := R10.out.free 2
        have f3 := R10.out.free 3
        have f4 := R10.out.free 4
        have f5 := R10.out.free 5
        have f6 := R10.out.free 6
        have z0 := R10.out.cell 0 rfl
        have z1 := R10.out.cell 1 rfl
        have z2 := R10.out.cell 2 rfl
        have z3 := R10.out.cell 3 rfl
        have z4 := R10.out.cell 4 rfl
        have z5 := R10.out.cell 5 rfl
        have z6 := R10.out.cell 6 rfl
        have R11 := Lib.hid (setR_box R10.out (repE 0))
        have H11 : Hid (IsT (setR w10 p (repE 0)) b mt1 ml1 (n + 2) (T.newT Y s cl.op)) := Lib.hid (H10.out.box C3.out.ne (setR_mod w10 p (repE 0)) R10.out rep_no2 rep_nohe)
        have T11 : Hid (Turn w (setR w10 p (repE 0)) b mt ml mt1 ml1) := Lib.hid (T10.out.fresh (setR_mod w10 p (repE 0)) (by have := Hp.out; omega))
        subst hT2
        go_wp2
        obtain ⟨wz, Hwz⟩ : ∃ u, Hid (setR w10 p (repE 0) = u) := ⟨_, Lib.hid rfl⟩
        rw [Hwz.out] at R11 H11 T11
        rw [show ((((((w10.setCell ⟨p, 0, none⟩ (.int .i64 0)).setCell ⟨p, 1, none⟩ (.string (str []))).setCell ⟨p, 2, none⟩ (.slice none 0 0)).setCell ⟨p, 3, none⟩ (.int .i64 0)).setCell ⟨p, 4, none⟩ (.int .i64 0)).setCell ⟨p, 5, none⟩ (.int .i64 0)).setCell ⟨p, 6, none⟩ (.int .i64 0) = wz from Hwz.out]
        have s0 := R11.out.cell 0 rfl
        have s1 := R11.out.cell 1 rfl
        have s2 := R11.out.cell 2 rfl
        have s3 := R11.out.cell 3 rfl
        have s4 := R11.out.cell 4 rfl
        have s5 := R11.out.cell 5 rfl
        have s6 := R11.out.cell 6 rfl
        exact bodyPost_ret (v := repV (repE 0)) (by simp [results, Tryz.results29, go_sem, s0, s1, s2, s3, s4, s5, s6]) rfl ⟨rfl, mt1, ml1, H11.out, T11.out⟩
    · have hT2 : T2 = T := by rw [← HT2.out, HE.out, if_neg he]
      subst hT2
      have hq : (E != 0) = true := by simpa using he
      have f0 := R5.out.free 0
      have f1 := R5.out.free 1
      have f2 := R5.out.free 2
      have f3 := R5.out.free 3
      have f4 := R5.out.free 4
      have f5 := R5.out.free 5
      have f6 := R5.out.free 6
      have z0 := R5.out.cell 0 rfl
      have z1 := R5.out.cell 1 rfl
      have z2 := R5.out.cell 2 rfl
      have z3 := R5.out.cell 3 rfl
      have z4 := R5.out.cell 4 rfl
      have z5 := R5.out.cell 5 rfl
      have z6 := R5.out.cell 6 rfl
      have R9 := Lib.hid (setR_box R5.out (repE E))
      have H9 : Hid (IsT (setR w5 p (repE E)) b mt ml (n + 2) T2) := Lib.hid ((H5.out.box Ht.out.ne (setR_mod w5 p (repE E)) R5.out rep_no2 rep_nohe).more (by omega))
      have T9 : Hid (Turn w (setR w5 p (repE E)) b mt ml mt ml) := Lib.hid (Turn.below b mt ml (bmod B5.out (setR_mod w5 p (repE E)) (by have := Hp.out; omega)))
      clear he
      go_wp2
      obtain ⟨wz, Hwz⟩ : ∃ u, Hid (setR w5 p (repE E) = u) := ⟨_, Lib.hid rfl⟩
      rw [Hwz.out] at R9 H9 T9
      rw [show ((((((w5.setCell ⟨p, 0, none⟩ (.int .i64 E)).setCell ⟨p, 1, none⟩ (.string (str []))).setCell ⟨p, 2, none⟩ (.slice none 0 0)).setCell ⟨p, 3, none⟩ (.int .i64 0)).setCell ⟨p, 4, none⟩ (.int .i64 0)).setCell ⟨p, 5, none⟩ (.int .i64 0)).setCell ⟨p, 6, none⟩ (.int .i64 0) = wz from Hwz.out]
      have s0 := R9.out.cell 0 rfl
      have s1 := R9.out.cell 1 rfl
      have s2 := R9.out.cell 2 rfl
      have s3 := R9.out.cell 3 rfl
      have s4 := R9.out.cell 4 rfl
      have s5 := R9.out.cell 5 rfl
      have s6 := R9.out.cell 6 rfl
      exact bodyPost_ret (v := repV (repE E)) (by simp [results, Tryz.results29, go_sem, s0, s1, s2, s3, s4, s5, s6]) rfl ⟨rfl, mt, ml, H9.out, T9.out⟩
end
end Go.Proofs.YtiomhdanmcnaeaaGreatDoor
