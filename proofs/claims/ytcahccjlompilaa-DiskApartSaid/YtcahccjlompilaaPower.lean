/- What a loss of power leaves: of all caches what is picked, in the order of the keys; and no fence is pending. -/
import Derived.Test.YtcahccjlompilaaDiskC
import Derived.Test.YtcahccjlompilaaSorted
namespace Go.Proofs.Ytcahccjlompilaa
open Go.RowKit Go.MapKept

/-- How many writes the first so many keys' caches have. -/
def powOff (s : DS) (ks : List Int) : Nat → Nat
  | 0 => 0
  | k + 1 => powOff s ks k + (s.caches (ks.getD k 0)).length
/-- What lies behind the first so many keys' settling. -/
def powAt (s : DS) (zs : List Int) (ks : List Int) : Nat → DS
  | 0 => s
  | k + 1 => (powAt s zs ks k).settle (ks.getD k 0) (fun i => decs zs (powOff s ks k + i))
theorem powAt_caches (s : DS) (zs ks : List Int) (x : Int) : ∀ k, (∀ j, j < k → ks.getD j 0 ≠ x) → (powAt s zs ks k).caches x = s.caches x
  | 0, _ => rfl
  | k + 1, h => by
    have h1 : x ≠ ks.getD k 0 := fun e => h k (by omega) e.symm
    have : (powAt s zs ks (k + 1)).caches x = (powAt s zs ks k).caches x := if_neg h1
    rw [this, powAt_caches s zs ks x k (fun j hj => h j (by omega))]
def DS.power (s : DS) (zs ks : List Int) : DS := (powAt s zs ks ks.length).pendTo []
set_option maxRecDepth 100000 in
set_option maxHeartbeats 1000000 in
theorem Power_any {w : World} {b n : Nat} {ρ : Nat → Role} {s : DS} {lb kb cb : Nat} {pv : Value} {cf : Int → Option Value} (h : Dk w b ρ n s lb kb cb pv cf) (hn : n + 1 ≤ 1000000) {a : Option Addr} {len cap g : Nat} {zs : List Int} (hz : PickArg w a len cap g zs) (hg : 0 < len → ρ g = .no)
    {ks : List Int} (hks : ks.Pairwise (· < ·)) (hkm : ∀ k, k ∈ ks ↔ s.caches k ≠ []) :
    Calls Try.prog 32 #[.pointer (some ⟨b, 0, none⟩), .slice a len cap] w (Did w b ρ (n + 1) (s.power zs ks) (.tuple #[])) := by
  have c2 := h.c2
  have hcl : (w.cell? ⟨b, 2, none⟩).isSome := by rw [c2]; rfl
  have hbl := lt_of_cell h.c0
  obtain ⟨w1, Hw1⟩ : ∃ w1, Hid (w.alloc (.cells #[.slice a len cap] 29) = w1) := ⟨_, Lib.hid rfl⟩
  have Hb1 : Hid (Below w.heap.size w w1) := Lib.hid (by rw [← Hw1.out]; exact (Below.refl _ _).alloc (Nat.le_refl _) _)
  have Hs1 : Hid (w1.heap.size = w.heap.size + 1) := Lib.hid (by rw [← Hw1.out]; simp)
  have HD1 := Lib.hid (h.later (Mod.of_below (S := fun _ => False) Hb1.out) (fun _ => False.elim))
  have HP1 : Hid (Picks w1 w.heap.size g zs) := Lib.hid (by rw [← Hw1.out]; exact hz.boxed)
  obtain ⟨w2, Hw2⟩ : ∃ w2, Hid (w1.alloc (.cells #[.map (some cb)] 65) = w2) := ⟨_, Lib.hid rfl⟩
  have Hb2 : Hid (Below w1.heap.size w1 w2) := Lib.hid (by rw [← Hw2.out]; exact (Below.refl _ _).alloc (Nat.le_refl _) _)
  have c21 := HD1.out.c2
  obtain ⟨D0, hown, hszn, hkeys⟩ := HD1.out.cach.keys
  have hsm := h.fine.small
  have HS := Lib.hid (Sorted_keys cb n D0 w1 hown (by unfold maxLen; omega) (by omega))
  rw [Hw2.out] at HS
  have hcf : ∀ k, cf k ≠ none ↔ s.caches k ≠ [] := fun k => by
    constructor
    · intro h1
      cases hc : cf k with
      | none => exact absurd hc h1
      | some v => have := (h.row k v hc).2.2; intro e; rw [e] at this; simp at this
    · intro h1 h2; exact h1 (h.no k h2)
  have Hkeys : Hid (∀ ss : List Int, ss.Perm (intKeys D0) → ss.mergeSort leI = ks ∧ ss.length ≤ n) := Lib.hid fun ss hp => by
    obtain ⟨h1, h2⟩ := hkeys ss hp
    exact ⟨h1.only hks (fun k => by rw [hkm, hcf]), h2⟩
  have Hwf : Hid (∀ i, i < ks.length → (Lit.int .i64 (ks.getD i 0)).wf = true) := Lib.hid fun i hi => by
    have h1 : ks.getD i 0 ∈ ks := by rw [List.getD_eq_getElem?_getD, List.getElem?_eq_getElem hi]; exact List.getElem_mem hi
    have h2 := (hcf _).2 ((hkm _).1 h1)
    cases hc : cf (ks.getD i 0) with
    | none => exact absurd hc h2
    | some v => exact h.cach.keyWf hc
  have Hlow : Hid (∀ i j, j < i → i < ks.length → ks.getD j 0 ≠ ks.getD i 0) := Lib.hid fun i j hji hi => by
    have h1 := List.pairwise_iff_getElem.1 hks j i (by omega) hi hji
    rw [List.getD_eq_getElem?_getD, List.getElem?_eq_getElem (show j < ks.length by omega), List.getD_eq_getElem?_getD, List.getElem?_eq_getElem hi]
    simp only [Option.getD_some]
    omega
  have Hh := Lib.hid h
  have Hg := Lib.hid hg
  have Hlen := Lib.hid hz.length
  have Hkm := Lib.hid hkm
  have Hks := Lib.hid hks
  clear hkeys hcf hown hszn hkm hks hz hg h hcl
  go_enter Try.func32, Try.ntmps32
  go_wp2_with fail
  refine (odd_any _ _ _ _).mono ?_
  rintro e w1' ⟨rfl, rfl⟩
  rw [Hw1.out]
  go_wp2_with fail
  refine (callsIn_wide.1 (maps_Keys_any (some cb) w1)).mono ?_
  rintro e w2' ⟨rfl, rfl⟩
  rw [Hw2.out]
  go_wp2_with fail
  refine (callsIn_wide.1 HS.out).mono ?_
  rintro e w3 ⟨v, ss, rfl, hperm, hrow, hnil, hb3⟩
  obtain ⟨hsk, hsn⟩ := Hkeys.out ss hperm
  have hlk : ss.length = ks.length := by rw [← hsk, List.length_mergeSort]
  have Hb3 := Lib.hid hb3
  have Hb13 : Hid (Below w1.heap.size w1 w3) := Lib.hid (bnext Hb2.out hb3)
  have Hb03 : Hid (Below w.heap.size w w3) := Lib.hid (bnext Hb1.out Hb13.out)
  obtain ⟨va, vc, rfl, hcells⟩ : ∃ va vc, v = .slice va ks.length vc ∧ ∀ i, i < ks.length → ∃ gb, va = some ⟨gb, 0, none⟩ ∧ w2.heap.size ≤ gb ∧ gb < w3.heap.size ∧ w3.cell? ⟨gb, i, none⟩ = some (.int .i64 (ks.getD i 0)) := by
    rcases hrow.2 with ⟨rfl, hz⟩ | ⟨gb, cap', cur, rfl, hbase, hgb, r1, r2, r3, r4⟩
    · exact ⟨none, 0, by rw [← hlk, hz], fun i hi => absurd hi (by omega)⟩
    · have r4' : cur.toList.take ks.length = ks.map encZ := by simpa [hlk, hsk] using r4
      refine ⟨_, _, by rw [hlk], fun i hi => ⟨gb, rfl, hbase, (Array.getElem?_eq_some_iff.1 hgb).1, ?_⟩⟩
      have h1 := (holds_of_block_i hgb r4' i (by simpa using hi)).1
      rw [Nat.zero_add] at h1
      rw [h1, List.getD_eq_getElem?_getD, List.getElem?_eq_getElem hi]
      simp [hi]
  have Hcells := Lib.hid hcells
  have hkl : ks.length ≤ 1000000 := by omega
  clear hcells hrow hnil hb3 hperm hsk hsn hlk
  go_wp2
  go_loopw [18] (fun i wr => ∃ k : Nat, i = .int .i64 (k : Int) ∧ k ≤ ks.length ∧ Hid (IsD wr b ρ n (powAt s zs ks k)) ∧ Hid (Picks wr w.heap.size g (zs.drop (powOff s ks k))) ∧ Hid (Mod (fun g => ρ g ≠ .no ∨ g = w.heap.size) w3 wr)) (fun i _ => ks.length - (intOf i).toNat)
  case atStart => exact ⟨0, rfl, Nat.zero_le _, Lib.hid ⟨_, _, _, _, _, Hh.out.later (Mod.of_below (S := fun _ => False) Hb03.out) (fun _ => False.elim)⟩, Lib.hid (HP1.out.later (Mod.of_below (S := fun _ => False) Hb13.out) id (fun _ => id)), Lib.hid (Mod.refl _ _)⟩
  case round =>
    obtain ⟨k, rfl, hkc, HD, HPk, HM⟩ := hrel
    obtain ⟨lb', kb', cb', pv', cf', D⟩ := HD.out
    have c3 := D.c3
    have f3 := D.f3
    have HDk := Lib.hid D
    clear D
    by_cases hlt : k < ks.length
    · obtain ⟨gb, rfl, hgb1, hgb2, hc⟩ := Hcells.out k hlt
      have hs1 := Hs1.out
      have hs2 := Hb2.out.size
      have hno : ¬ (ρ gb ≠ .no ∨ gb = w.heap.size) := fun h => by
        rcases h with h | h
        · have := Hh.out.top gb h; omega
        · omega
      have x0 := (HM.out.cell (p := ⟨gb, k, none⟩) hgb2 hno).trans hc
      have hq : ρ w.heap.size = .no := IsD.above ⟨_, _, _, _, _, Hh.out⟩ (Nat.le_refl _)
      have Hcall := Lib.hid (settle_picks HDk.out (Hwf.out k hlt) hq zs (fun h0 => Hg.out (by rw [← Hlen.out]; exact h0)) (powOff s ks k) HPk.out)
      have Heq := Lib.hid (powAt_caches s zs ks (ks.getD k 0) k (fun j hj => Hlow.out k j hj hlt))
      have hlt' : (k : Int) < (ks.length : Int) := by omega
      obtain ⟨key, Hkey⟩ : ∃ key, Hid (ks.getD k 0 = key) := ⟨_, Lib.hid rfl⟩
      rw [Hkey.out] at x0 Hcall Heq
      clear hc hno hq hs1 hs2 hgb1 hgb2
      go_wp2_with fail
      refine Hcall.out.mono ?_
      rintro e w4 ⟨rfl, hD4, hM4, hP4⟩
      rw [Heq.out] at hP4
      have HD4 : Hid (IsD w4 b ρ n (powAt s zs ks (k + 1))) := Lib.hid (by
        show IsD w4 b ρ n ((powAt s zs ks k).settle (ks.getD k 0) (fun i => decs zs (powOff s ks k + i)))
        rw [Hkey.out]; exact hD4)
      have HP4 : Hid (Picks w4 w.heap.size g (zs.drop (powOff s ks (k + 1)))) := Lib.hid (by
        show Picks w4 w.heap.size g (zs.drop (powOff s ks k + (s.caches (ks.getD k 0)).length))
        rw [Hkey.out]; exact hP4)
      have HM4 := Lib.hid (HM.out.trans hM4)
      clear hD4 hP4 hM4
      go_wp2
      go_roundw
      case rel => exact ⟨k + 1, by go_num, by omega, HD4, HP4, HM4⟩
      case measure => simp [intOf]; omega
    · obtain rfl : k = ks.length := by omega
      go_wp2
      go_end0
      obtain ⟨ρ', D5, S5⟩ := HDk.out.pendTo (pv' := .slice none 0 0) (l := []) (Mod.refl _ wr) (row_nil wr 1) (Nat.zero_le _) hn (fun k h => by cases h) (fun g hg => by cases hg)
      exact ⟨rfl, ρ', ⟨_, _, _, _, _, D5⟩, ((Step.refl w ρ).andMod ((Mod.of_below (S := fun g => ρ g ≠ .no ∨ w.heap.size ≤ g) Hb03.out).trans (HM.out.mono fun g _ h => h.elim .inl fun e => .inr (by omega)))).trans S5⟩
end Go.Proofs.Ytcahccjlompilaa
