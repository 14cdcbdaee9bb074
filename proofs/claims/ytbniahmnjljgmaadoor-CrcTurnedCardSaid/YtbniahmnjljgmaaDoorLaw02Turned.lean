/- Of two texts of one length that differ in up to 32 bits in a row the sums differ. -/
import Derived.Test.YtbniahmnjljgmaaDoorBytes02
import Derived.Test.YtbniahmnjljgmaaDoorTied02
namespace Go.Proofs.YtbniahmnjljgmaaDoor.crcTurned
open Go.RowKit Go.ChangeShapes Go.WideShapes Go.ChangeAt
open Go.ChangeMaps (open_string shut_string)

theorem bit_val (c : BitVec 32) (k : Nat) : (bits .and .u32 (uv c / 2 ^ k) 1 == 1) = c.toNat.testBit k := by
  have hc := c.isLt
  have e : uv c / 2 ^ k = ((c.toNat / 2 ^ k : Nat) : Int) := by
    unfold uv
    rw [Int.natCast_ediv]
    simp
  have hd : c.toNat / 2 ^ k < 4294967296 := Nat.lt_of_le_of_lt (Nat.div_le_self _ _) hc
  rw [e]
  generalize hm : c.toNat / 2 ^ k = m at hd
  have h1 : bits .and .u32 (m : Int) 1 = ((m % 2 : Nat) : Int) := by
    show IntKind.u32.wrap ((BitVec.ofInt 32 (m : Int) &&& BitVec.ofInt 32 1).toNat : Int) = _
    rw [BitVec.toNat_and]
    have h2 : (BitVec.ofInt 32 (m : Int)).toNat = m := by simp; omega
    have h3 : (BitVec.ofInt 32 1).toNat = 1 := by decide
    rw [h2, h3, Nat.and_one_is_mod, IntKind.wrap_u32]
    omega
  rw [h1, Nat.testBit_eq_decide_div_mod_eq, hm]
  by_cases h : m % 2 = 1
  · simp [h]
  · have : m % 2 = 0 := by omega
    simp [this]
theorem mask_val (y : UInt8) (r : Nat) : bits .xor .u8 ((y.toNat : Nat) : Int) (128 / 2 ^ r) = (((y ^^^ UInt8.ofNat (128 >>> r)).toNat : Nat) : Int) := by
  have e : (128 : Int) / (2 : Int) ^ r = (((UInt8.ofNat (128 >>> r)).toNat : Nat) : Int) := by
    have h1 : 128 >>> r = 128 / 2 ^ r := Nat.shiftRight_eq_div_pow _ _
    have h2 : 128 / 2 ^ r ≤ 128 := Nat.div_le_self _ _
    have h3 : (UInt8.ofNat (128 / 2 ^ r)).toNat = 128 / 2 ^ r := by simp; omega
    rw [h1, h3, Int.natCast_ediv]
    simp
  rw [e, u8_xor]
theorem place (x : Int) (N : Nat) (h5 : 5 ≤ N) (hx : -9223372036854775808 ≤ x ∧ x ≤ 9223372036854775807) :
    (x < 0 ∧ ∃ n : Nat, Hid (-((x + 1).tmod (8 * (N : Int) - 31)) = (n : Int)) ∧ n + 32 ≤ 8 * N) ∨ (0 ≤ x ∧ ∃ n : Nat, Hid (x % (8 * (N : Int) - 31) = (n : Int)) ∧ n + 32 ≤ 8 * N) := by
  have key : ∀ y : Int, 0 ≤ y → ∃ n : Nat, y.tmod (8 * (N : Int) - 31) = (n : Int) ∧ n + 32 ≤ 8 * N := by
    intro y hy
    have h1 := Int.emod_nonneg y (b := 8 * (N : Int) - 31) (by omega)
    have h2 := Int.emod_lt_of_pos y (b := 8 * (N : Int) - 31) (by omega)
    refine ⟨(y % (8 * (N : Int) - 31)).toNat, ?_, by omega⟩
    rw [Int.tmod_eq_emod_of_nonneg hy]
    omega
  by_cases h : x < 0
  · obtain ⟨n, h1, h2⟩ := key (-(x + 1)) (by omega)
    rw [Int.neg_tmod] at h1
    exact .inl ⟨h, n, Lib.hid h1, h2⟩
  · obtain ⟨n, h1, h2⟩ := key x (by omega)
    rw [Int.tmod_eq_emod_of_nonneg (by omega)] at h1
    exact .inr ⟨by omega, n, Lib.hid h1, h2⟩
set_option maxRecDepth 100000 in
set_option maxHeartbeats 8000000 in
theorem walk (a : List UInt8) (x z : Int) (w : World) (_ha : a.length ≤ maxLen) (hx : (Lit.int .i64 x).wf = true) (hz : (Lit.int .u32 z).wf = true) (hT : Tab w) :
    Calls Tryd.prog 6 #[.string (str a), .int .i64 x, .int .u32 z] w fun e w' => e = .returned (.bool true) ∧ Below w.heap.size w w' := by
  obtain ⟨c, rfl⟩ : ∃ x, z = uv x := uv_wf z hz
  clear hz
  have hx2 : -9223372036854775808 ≤ x ∧ x ≤ 9223372036854775807 := by
    simp [Lit.wf] at hx
    exact hx
  clear hx
  have hbs := bytes_of
  have hc0 := uv_lo c
  have hc1 := uv_hi c
  go_enter Tryd.func6, Tryd.ntmps6
  go_wp2_with fail
  refine (awake_any _ hT).mono ?_
  rintro e w1 ⟨rfl, hb1⟩
  have Hb1 := Lib.hid hb1
  have HT1 := Lib.hid (hT.below hb1)
  clear hb1
  go_wp2_with fail
  refine (short_any a 500 (by omega) (by omega) _).mono ?_
  rintro e w2 ⟨rfl, rfl⟩
  obtain ⟨l, Hl⟩ : ∃ l, Hid (a.take (500 : Int).toNat = l) := ⟨_, Lib.hid rfl⟩
  have hl : l.length ≤ 500 := by rw [← Hl.out]; simp; omega
  rw [Hl.out]
  by_cases h5 : l.length < 5
  · go_wp2
    go_ret
    exact ⟨rfl, Hb1.out⟩
  · by_cases h0 : uv c = 0
    · go_wp2
      go_ret
      exact ⟨rfl, Hb1.out⟩
    · obtain ⟨wb, cap, hconv, hby, hbb, hsz⟩ := bytes_of w1 l
      have Hby := Lib.hid hby
      have Hbb := Lib.hid (bnext Hb1.out hbb)
      have HB := Lib.hid Hb1.out.size
      clear hby hbb hsz hbs
      have h0' : (uv c == 0) = false := by simp [h0]
      have h5' : 5 ≤ (l.length : Int) := by omega
      have h5'' : ¬ ((l.length : Int) < 5) := by omega
      obtain ⟨B, HBB⟩ : ∃ B, Hid (w1.heap.size = B) := ⟨_, Lib.hid rfl⟩
      rw [HBB.out] at hconv Hby HB
      rcases place x l.length (by omega) hx2 with ⟨hneg, n, Hn, hn⟩ | ⟨hneg, n, Hn, hn⟩
      all_goals
        go_wp2
        rw [Hn.out]
        clear hx2 hneg
        go_loopw [10] (fun i wr => ∃ k : Nat, k ≤ 32 ∧ i = .int .i64 k ∧ Bytes wr B (Crc.burst l n c.toNat k) ∧ Below w.heap.size w wr) (fun i _ => 32 - (intOf i).toNat)
        case atStart => exact ⟨0, Nat.zero_le _, rfl, Hby.out, Hbb.out⟩
        case round =>
          obtain ⟨k, hk, rfl, hby, hbel⟩ := hrel
          have Hby := Lib.hid hby
          have Hbel := Lib.hid hbel
          clear hby hbel
          by_cases hlt : k < 32
          · have hbit := bit_val c k
            have hLl := Crc.burst_length l n c.toNat k
            have hi8 : (n + k) / 8 < (Crc.burst l n c.toNat k).length := by omega
            have hcl := Hby.out.cell _ hi8
            have hfr := Hby.out.free _ hi8
            have hst : Crc.burst l n c.toNat (k + 1) = if c.toNat.testBit k then Crc.turn (Crc.burst l n c.toNat k) (n + k) else Crc.burst l n c.toNat k := rfl
            have htu : Crc.turn (Crc.burst l n c.toNat k) (n + k) = (Crc.burst l n c.toNat k).set ((n + k) / 8) ((Crc.burst l n c.toNat k).getD ((n + k) / 8) 0 ^^^ UInt8.ofNat (128 >>> ((n + k) % 8))) := rfl
            obtain ⟨L, HL⟩ : ∃ L, Hid (Crc.burst l n c.toNat k = L) := ⟨_, Lib.hid rfl⟩
            rw [HL.out] at hLl hi8 hcl hst htu Hby
            obtain ⟨y, Hy⟩ : ∃ y, Hid (L.getD ((n + k) / 8) 0 = y) := ⟨_, Lib.hid rfl⟩
            rw [Hy.out] at hcl htu
            have Hst := Lib.hid hst
            have Htu := Lib.hid htu
            clear hst htu
            by_cases ht : c.toNat.testBit k = true
            · rw [ht] at hbit Hst
              go_wp2
              go_roundw
              case rel =>
                refine ⟨k + 1, by omega, by go_num, ?_, Hbel.out.setCell HB.out _⟩
                rw [Hst.out, if_pos rfl, Htu.out, mask_val]
                exact Hby.out.set _ _
              case measure => simp [intOf]; omega
            · have hf : c.toNat.testBit k = false := by simpa using ht
              rw [hf] at hbit Hst
              go_wp2
              go_roundw
              case rel =>
                refine ⟨k + 1, by omega, by go_num, ?_, Hbel.out⟩
                rw [Hst.out, if_neg (by decide)]
                exact Hby.out
              case measure => simp [intOf]; omega
          · obtain rfl : k = 32 := by omega
            have hbk := Hby.out.back cap
            have hLl := Crc.burst_length l n c.toNat 32
            have hne : (uv (sums 0#32 [Crc.burst l n c.toNat 32]) != uv (sums 0#32 [l])) = true := by
              rw [bne_iff_ne]
              intro h
              refine Crc.burst_found l n c.toNat hn c.isLt (fun hz => h0 (by unfold uv; omega)) 0#32 ?_
              exact uv_inj.1 h
            obtain ⟨L, HL⟩ : ∃ L, Hid (Crc.burst l n c.toNat 32 = L) := ⟨_, Lib.hid rfl⟩
            rw [HL.out] at hbk hLl hne
            rw [hLl] at hbk
            have kL : L.length ≤ maxLen := by rw [hLl]; unfold maxLen; omega
            have kl : l.length ≤ maxLen := by unfold maxLen; omega
            have Hne := Lib.hid hne
            clear hLl hne Hby
            have HTr : ∀ o, Hid (Tab (wr.alloc o)) := fun o => Lib.hid (hT.below (balloc Hbel.out o))
            have HTs : ∀ o p, Hid (Tab ((wr.alloc o).alloc p)) := fun o p => Lib.hid (hT.below (balloc (balloc Hbel.out o) p))
            go_wp2_with fail
            refine (Of_any _ _ _ [L] _ (strs_lit1n _ _ L kL (by simp)) (HTr _).out).mono ?_
            rintro e w3 ⟨rfl, rfl⟩
            go_wp2_with fail
            refine (Of_any _ _ _ [l] _ (strs_lit1n _ _ l kl (by simp)) (HTs _ _).out).mono ?_
            rintro e w3 ⟨rfl, rfl⟩
            have hne := Hne.out
            go_wp2
            go_ret
            exact ⟨rfl, balloc (balloc Hbel.out _) _⟩
set_option maxRecDepth 100000 in
theorem lifted (os : Os) (started : os.Started) (H : Type) (enc : TypeId × Value → H) :
    ReturnsInHanded {} Tryd.checked os 6 .any (fun w args => (Rows.crcTurnedSpec.pre enc Tryd.prog Tryd.f6 [] false w args ∧ laidMetH Tryd.prog laidT w) ∧ sizedMet enc Tryd.prog Tryd.f6 (OpenSpec.ofChange Rows.crcTurnedSpec) false w args)
      (Rows.crcTurnedSpec.post enc Tryd.prog Tryd.f6 false true false false) := by
  refine returnsInHanded_of_change_and (C := Tryd.checked) (X := fun w _ => laidMetH Tryd.prog laidT w) (fun _ _ _ hh h => h.of_heap hh) own started (by kernel_rfl) Tryd.func6
    (ChangeSpec.witness_shaped (enc := enc) (C := Tryd.checked) (os := os) (X := fun w _ => laidMetH Tryd.prog laidT w) false (World.doorLaid Tryd.prog 400 os) #[.string ByteArray.empty, .int .i64 0, .int .u32 0] 8 rfl (World.shaped_of_RefB (by kernel_rfl) (by kernel_rfl)) (by kernel_rfl) (by kernel_rfl) (by kernel_rfl) (door_met os _)) ?_
  intro W base args ds gs before hval0 hW _ _ hL _
  have hval : ∀ (j : Nat) t v, Tryd.f6.params[j]? = some t → args[j]? = some v → Value.okWide Tryd.prog W .any base t v := hval0
  have hW' := hW
  obtain ⟨p, q, hA0, hV, rfl, hfz, hnd⟩ := hW
  have hA : DataW.TrodAll enc Tryd.prog W 0 (fun _ => true) true Tryd.f6.params.toList args.toList ds p := hA0
  rw [Tryd.params6] at hA hval
  obtain ⟨v0, vs0, d0, ds0, p0, q0, hargs, rfl, rfl, h0, r0⟩ := trodAll_cons hA
  obtain ⟨v1, vs1, d1, ds1, p1, q1, rfl, rfl, rfl, h1, r1⟩ := trodAll_cons r0
  obtain ⟨v2, vs2, d2, ds2, p2, q2, rfl, rfl, rfl, h2, r2⟩ := trodAll_cons r1
  obtain ⟨rfl, rfl, rfl⟩ := trodAll_nil r2
  obtain rfl : args = #[v0, v1, v2] := by cases args; simp_all
  obtain ⟨s0, rfl, rfl, rfl, w0⟩ := open_string Tryd.underlying9 (hval 0 9 v0 rfl rfl) h0
  obtain ⟨a0, rfl⟩ := str_of s0
  rw [str_size] at w0
  obtain ⟨a1, rfl, rfl, rfl, w1⟩ := open_int Tryd.underlying3 (hval 1 3 v1 rfl rfl) h1
  obtain ⟨a2, rfl, rfl, rfl, w2⟩ := open_int Tryd.underlying22 (hval 2 22 v2 rfl rfl) h2
  clear hA0 hval0
  refine (walk a0 a1 a2 W w0 w1 w2 (tab_of_laid hL)).mono fun e W' ⟨he, bel⟩ => ?_
  subst he
  exact ⟨_, rfl, law_post laidOut (by rw [Tryd.params6]; decide +kernel) rfl Tryd.underlying4 rfl hW' (fun _ => rfl) bel⟩
theorem over : Rows.crcTurnedRow.holds Tryd.pinned (OpenSpec.ofChange Rows.crcTurnedSpec) :=
  OpenClaim.holds_of_wide 6 Tryd.f6 rfl rfl rfl rfl rfl rfl rfl ⟨rfl, rfl, rfl, rfl, rfl⟩ rfl rfl rfl rfl rfl (by kernel_rfl) Tryd.func6 (by kernel_rfl)
    (of_decide_eq_true (by kernel_rfl)) (by unfold Func.isWrapper; first | (rw [if_pos (by decide +kernel)]; kernel_rfl) | (rw [if_neg (by decide +kernel)]; exact ⟨rfl, rfl⟩))
    (fun os started H enc _ => lifted os started H enc)
theorem proved : Rows.CrcTurnedCardSaid :=
  Claim7.holds_tied_plain_at .later [] [.data] true Rows.crcTurnedCard.stood.harness false over (fun _ h => by cases h) (by kernel_rfl) (fun _ h => by cases h) crcTurned_row_tie rfl ⟨rfl, rfl⟩ (by kernel_rfl) rfl
    (fun f fn hf hfn => by
      obtain rfl : f = 6 := Option.some.inj ((show Tryd.prog.funcNamed "lockgate/lockgatelaw02.CrcTurned" = some 6 by kernel_rfl).symm.trans hf) |>.symm
      obtain rfl : fn = Tryd.f6 := (Option.some.inj (Tryd.func6.symm.trans hfn)).symm
      exact ⟨by kernel_rfl, fun j t ht => by
        rw [Tryd.params6] at ht
        have hm : t ∈ [9, 3, 22] := by simpa using Array.mem_of_getElem? ht
        have hall : ([9, 3, 22].all fun u => !Tryd.prog.wantsStandIn u) = true := by kernel_rfl
        exact (show Tryd.prog.wantsStandIn t = false by simpa using List.all_eq_true.1 hall t hm)⟩)
    (by kernel_rfl)
end Go.Proofs.YtbniahmnjljgmaaDoor.crcTurned
