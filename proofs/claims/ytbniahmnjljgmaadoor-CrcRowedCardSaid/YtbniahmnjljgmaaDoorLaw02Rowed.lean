/- A row of one text is that text with its length ahead, and one text more goes on from there. -/
import Derived.Test.YtbniahmnjljgmaaDoorRef02
import Derived.Test.YtbniahmnjljgmaaDoorTied02
namespace Go.Proofs.YtbniahmnjljgmaaDoor.crcRowed
open Go.RowKit Go.ChangeShapes Go.WideShapes Go.ChangeAt
open Go.ChangeMaps (open_string shut_string)

theorem len8 (l : List UInt8) (h : l.length ≤ 200) : [0, 0, 0, 0, 0, 0, 0, UInt8.ofNat l.length] = be 8 l.length := by
  have h1 : l.length / 256 = 0 := by omega
  simp [be, h1]
theorem cv8n (w : World) (n : Nat) (a b c d e f g h : Int) (hn : n = w.heap.size) : (convert 34 9 (.slice (some ⟨n, 0, none⟩) 8 8)).run Tryd.prog (w.alloc (.cells #[.int .u8 a, .int .u8 b, .int .u8 c, .int .u8 d, .int .u8 e, .int .u8 f, .int .u8 g, .int .u8 h] 5)) = .ok (.string (str [UInt8.ofNat a.toNat, UInt8.ofNat b.toNat, UInt8.ofNat c.toNat, UInt8.ofNat d.toNat, UInt8.ofNat e.toNat, UInt8.ofNat f.toNat, UInt8.ofNat g.toNat, UInt8.ofNat h.toNat])) (w.alloc (.cells #[.int .u8 a, .int .u8 b, .int .u8 c, .int .u8 d, .int .u8 e, .int .u8 f, .int .u8 g, .int .u8 h] 5)) := by
  subst hn
  exact cv8 w a b c d e f g h
set_option maxRecDepth 100000 in
set_option maxHeartbeats 4000000 in
theorem walk (a b : List UInt8) (w : World) (_ha : a.length ≤ maxLen) (_hb : b.length ≤ maxLen) (hT : Tab w) :
    Calls Tryd.prog 9 #[.string (str a), .string (str b)] w fun e w' => e = .returned (.bool true) ∧ Below w.heap.size w w' := by
  have hcv := cv8n
  go_enter Tryd.func9, Tryd.ntmps9
  go_wp2_with fail
  refine (awake_any _ hT).mono ?_
  rintro e w1 ⟨rfl, hb1⟩
  have Hb1 := Lib.hid hb1
  clear hb1
  go_wp2_with fail
  refine (short_any a 200 (by omega) (by omega) _).mono ?_
  rintro e w2 ⟨rfl, rfl⟩
  obtain ⟨l, Hl⟩ : ∃ l, Hid (a.take (200 : Int).toNat = l) := ⟨_, Lib.hid rfl⟩
  have hl : l.length ≤ 200 := by rw [← Hl.out]; simp; omega
  rw [Hl.out]
  go_wp2_with fail
  refine (short_any b 200 (by omega) (by omega) _).mono ?_
  rintro e w2 ⟨rfl, rfl⟩
  obtain ⟨m, Hm⟩ : ∃ m, Hid (b.take (200 : Int).toNat = m) := ⟨_, Lib.hid rfl⟩
  have hm : m.length ≤ 200 := by rw [← Hm.out]; simp; omega
  rw [Hm.out]
  go_wp2_with fail
  have ea : rows 0#32 [l] = sums 0#32 [0 :: 0 :: 0 :: 0 :: 0 :: 0 :: 0 :: UInt8.ofNat l.length :: l] := by
    show Crc.add (Crc.add 0#32 (be 8 l.length)) l = Crc.add 0#32 _
    rw [← Crc.add_append, ← len8 l hl]
    rfl
  have eb : rows 0#32 [l, m] = Crc.add (rows 0#32 [l]) (0 :: 0 :: 0 :: 0 :: 0 :: 0 :: 0 :: UInt8.ofNat m.length :: m) := by
    show Crc.add (Crc.add (rows 0#32 [l]) (be 8 m.length)) m = Crc.add _ _
    rw [← Crc.add_append, ← len8 m hm]
    rfl
  have Ea := Lib.hid ea
  have Eb := Lib.hid eb
  have kl : l.length ≤ maxLen := by unfold maxLen; omega
  have km : m.length ≤ maxLen := by unfold maxLen; omega
  have kx : (0 :: 0 :: 0 :: 0 :: 0 :: 0 :: 0 :: UInt8.ofNat l.length :: l).length ≤ maxLen := by unfold maxLen; simp; omega
  have ky : (0 :: 0 :: 0 :: 0 :: 0 :: 0 :: 0 :: UInt8.ofNat m.length :: m).length ≤ maxLen := by unfold maxLen; simp; omega
  clear ea eb
  have Hb2 : ∀ o p q, Hid (Below w.heap.size w (((w1.alloc o).alloc p).alloc q)) := fun o p q => Lib.hid (balloc (balloc (balloc Hb1.out o) p) q)
  refine (Row_any _ _ _ [l] _ (strs_lit1n _ _ l kl (by simp)) (hT.below (Hb2 _ _ _).out)).mono ?_
  rintro e w3 ⟨rfl, hb3⟩
  have Hb3 := Lib.hid (bnext (Hb2 _ _ _).out hb3)
  clear hb3
  rw [Ea.out]
  go_wp2_with fail
  refine (Of_any _ _ _ [_] _ (strs_lit1n w3 _ _ kx rfl) (hT.below (balloc Hb3.out _))).mono ?_
  rintro e w4 ⟨rfl, rfl⟩
  have Hb4 : ∀ o q, Hid (Below w.heap.size w ((w3.alloc o).alloc q)) := fun o q => Lib.hid (balloc (balloc Hb3.out o) q)
  go_wp2_with fail
  refine (Row_any _ _ _ [l, m] _ (strs_lit2n _ _ l m kl km (by simp)) (hT.below (Hb4 _ _).out)).mono ?_
  rintro e w5 ⟨rfl, hb5⟩
  have Hb5 := Lib.hid (bnext (Hb4 _ _).out hb5)
  clear hb5
  rw [Eb.out, Ea.out]
  go_wp2_with fail
  refine (Of_any _ _ _ [_] _ (strs_lit1n w5 _ _ kx rfl) (hT.below (balloc Hb5.out _))).mono ?_
  rintro e w6 ⟨rfl, rfl⟩
  go_wp2_with fail
  refine (Add_any _ _ ky _ (hT.below (balloc Hb5.out _))).mono ?_
  rintro e w6 ⟨rfl, rfl⟩
  have Hb6 : ∀ o, Hid (Below w.heap.size w (w5.alloc o)) := fun o => Lib.hid (balloc Hb5.out o)
  go_wp2_with fail
  refine (Row_any _ _ _ [] _ (strs_none _) (hT.below (Hb6 _).out)).mono ?_
  rintro e w7 ⟨rfl, hb7⟩
  have Hb7 := Lib.hid (bnext (Hb6 _).out hb7)
  clear hb7
  rw [show uv (rows 0#32 []) = 0 by decide]
  go_wp2
  go_ret
  exact ⟨rfl, Hb7.out⟩
set_option maxRecDepth 100000 in
theorem lifted (os : Os) (started : os.Started) (H : Type) (enc : TypeId × Value → H) :
    ReturnsInHanded {} Tryd.checked os 9 .any (fun w args => (Rows.crcRowedSpec.pre enc Tryd.prog Tryd.f9 [] false w args ∧ laidMetH Tryd.prog laidT w) ∧ sizedMet enc Tryd.prog Tryd.f9 (OpenSpec.ofChange Rows.crcRowedSpec) false w args)
      (Rows.crcRowedSpec.post enc Tryd.prog Tryd.f9 false true false false) := by
  refine returnsInHanded_of_change_and (C := Tryd.checked) (X := fun w _ => laidMetH Tryd.prog laidT w) (fun _ _ _ hh h => h.of_heap hh) own started (by kernel_rfl) Tryd.func9
    (ChangeSpec.witness_shaped (enc := enc) (C := Tryd.checked) (os := os) (X := fun w _ => laidMetH Tryd.prog laidT w) false (World.doorLaid Tryd.prog 400 os) #[.string ByteArray.empty, .string ByteArray.empty] 8 rfl (World.shaped_of_RefB (by kernel_rfl) (by kernel_rfl)) (by kernel_rfl) (by kernel_rfl) (by kernel_rfl) (door_met os _)) ?_
  intro W base args ds gs before hval0 hW _ _ hL _
  have hval : ∀ (j : Nat) t v, Tryd.f9.params[j]? = some t → args[j]? = some v → Value.okWide Tryd.prog W .any base t v := hval0
  have hW' := hW
  obtain ⟨p, q, hA0, hV, rfl, hfz, hnd⟩ := hW
  have hA : DataW.TrodAll enc Tryd.prog W 0 (fun _ => true) true Tryd.f9.params.toList args.toList ds p := hA0
  rw [Tryd.params9] at hA hval
  obtain ⟨v0, vs0, d0, ds0, p0, q0, hargs, rfl, rfl, h0, r0⟩ := trodAll_cons hA
  obtain ⟨v1, vs1, d1, ds1, p1, q1, rfl, rfl, rfl, h1, r1⟩ := trodAll_cons r0
  obtain ⟨rfl, rfl, rfl⟩ := trodAll_nil r1
  obtain rfl : args = #[v0, v1] := by cases args; simp_all
  obtain ⟨s0, rfl, rfl, rfl, w0⟩ := open_string Tryd.underlying9 (hval 0 9 v0 rfl rfl) h0
  obtain ⟨a0, rfl⟩ := str_of s0
  rw [str_size] at w0
  obtain ⟨s1, rfl, rfl, rfl, w1⟩ := open_string Tryd.underlying9 (hval 1 9 v1 rfl rfl) h1
  obtain ⟨a1, rfl⟩ := str_of s1
  rw [str_size] at w1
  clear hA0 hval0
  refine (walk a0 a1 W w0 w1 (tab_of_laid hL)).mono fun e W' ⟨he, bel⟩ => ?_
  subst he
  exact ⟨_, rfl, law_post laidOut (by rw [Tryd.params9]; decide +kernel) rfl Tryd.underlying4 rfl hW' (fun _ => rfl) bel⟩
theorem over : Rows.crcRowedRow.holds Tryd.pinned (OpenSpec.ofChange Rows.crcRowedSpec) :=
  OpenClaim.holds_of_wide 9 Tryd.f9 rfl rfl rfl rfl rfl rfl rfl ⟨rfl, rfl, rfl, rfl, rfl⟩ rfl rfl rfl rfl rfl (by kernel_rfl) Tryd.func9 (by kernel_rfl)
    (of_decide_eq_true (by kernel_rfl)) (by unfold Func.isWrapper; first | (rw [if_pos (by decide +kernel)]; kernel_rfl) | (rw [if_neg (by decide +kernel)]; exact ⟨rfl, rfl⟩))
    (fun os started H enc _ => lifted os started H enc)
theorem proved : Rows.CrcRowedCardSaid :=
  Claim7.holds_tied_plain_at .later [] [.data] true Rows.crcRowedCard.stood.harness false over (fun _ h => by cases h) (by kernel_rfl) (fun _ h => by cases h) crcRowed_row_tie rfl ⟨rfl, rfl⟩ (by kernel_rfl) rfl
    (fun f fn hf hfn => by
      obtain rfl : f = 9 := Option.some.inj ((show Tryd.prog.funcNamed "lockgate/lockgatelaw02.CrcRowed" = some 9 by kernel_rfl).symm.trans hf) |>.symm
      obtain rfl : fn = Tryd.f9 := (Option.some.inj (Tryd.func9.symm.trans hfn)).symm
      exact ⟨by kernel_rfl, fun j t ht => by
        rw [Tryd.params9] at ht
        have hm : t ∈ [9, 9] := by simpa using Array.mem_of_getElem? ht
        have hall : ([9, 9].all fun u => !Tryd.prog.wantsStandIn u) = true := by kernel_rfl
        exact (show Tryd.prog.wantsStandIn t = false by simpa using List.all_eq_true.1 hall t hm)⟩)
    (by kernel_rfl)
end Go.Proofs.YtbniahmnjljgmaaDoor.crcRowed
