/- Of three texts of one length that are put together by an exclusive or, the sum is that of the sums. -/
import Derived.Test.YtbniahmnjljgmaaDoorBytes02
import Derived.Test.YtbniahmnjljgmaaDoorTied02
import Derived.StillTailTactics
import Derived.Test.YtbniahmnjljgmaaDoorDraw
import Derived.Deep.DeepCutAuto
namespace Go.Proofs.YtbniahmnjljgmaaDoor.crcThree
open Go.RowKit Go.ChangeShapes Go.WideShapes Go.ChangeAt
open Go.ChangeMaps (open_string shut_string)

/-- What is laid after k rounds: k bytes put together, and zeros. -/
def mixed (a b c : List UInt8) (n k : Nat) : List UInt8 := (Crc.xor3 (a.take k) (b.take k) (c.take k)) ++ List.replicate (n - k) 0
theorem xor3_length : ∀ (a b c : List UInt8) (n : Nat), a.length = n → b.length = n → c.length = n → (Crc.xor3 a b c).length = n
  | [], [], [], n, h, _, _ => by simpa [Crc.xor3] using h
  | a :: x, b :: y, c :: z, n, h1, h2, h3 => by
    simp only [List.length_cons] at h1 h2 h3
    rw [Crc.xor3, List.length_cons, xor3_length x y z (n - 1) (by omega) (by omega) (by omega)]
    omega
  | [], _ :: _, _, n, h1, h2, _ => by simp at h1 h2; omega
  | _ :: _, [], _, n, h1, h2, _ => by simp at h1 h2; omega
  | _ :: _, _ :: _, [], n, h1, _, h3 => by simp at h1 h3; omega
  | [], [], _ :: _, n, h1, _, h3 => by simp at h1 h3; omega
theorem xor3_snoc : ∀ (a b c : List UInt8) (x y z : UInt8), a.length = b.length → b.length = c.length → Crc.xor3 (a ++ [x]) (b ++ [y]) (c ++ [z]) = Crc.xor3 a b c ++ [x ^^^ y ^^^ z]
  | [], [], [], _, _, _, _, _ => rfl
  | a :: s, b :: t, c :: u, x, y, z, h1, h2 => by
    rw [List.cons_append, List.cons_append, List.cons_append, Crc.xor3, Crc.xor3, xor3_snoc s t u x y z (by simpa using h1) (by simpa using h2)]
    rfl
  | [], _ :: _, _, _, _, _, h, _ => by simp at h
  | _ :: _, [], _, _, _, _, h, _ => by simp at h
  | _ :: _, _ :: _, [], _, _, _, _, h => by simp at h
  | [], [], _ :: _, _, _, _, _, h => by simp at h
theorem mixed_length (a b c : List UInt8) (n k : Nat) (h1 : n ≤ a.length) (h2 : n ≤ b.length) (h3 : n ≤ c.length) (hk : k ≤ n) : (mixed a b c n k).length = n := by
  rw [mixed, List.length_append, List.length_replicate, xor3_length _ _ _ k (by simp; omega) (by simp; omega) (by simp; omega)]
  omega
theorem mixed_next (a b c : List UInt8) (n k : Nat) (h1 : n ≤ a.length) (h2 : n ≤ b.length) (h3 : n ≤ c.length) (hk : k < n) :
    mixed a b c n (k + 1) = (mixed a b c n k).set k (a[k]'(by omega) ^^^ b[k]'(by omega) ^^^ c[k]'(by omega)) := by
  have hl : (Crc.xor3 (a.take k) (b.take k) (c.take k)).length = k := xor3_length _ _ _ k (by simp; omega) (by simp; omega) (by simp; omega)
  have e : List.replicate (n - k) (0 : UInt8) = 0 :: List.replicate (n - (k + 1)) 0 := by
    rw [show n - k = (n - (k + 1)) + 1 by omega, List.replicate_succ]
  rw [mixed, mixed, take_snoc a k (by omega), take_snoc b k (by omega), take_snoc c k (by omega), xor3_snoc _ _ _ _ _ _ (by simp; omega) (by simp; omega), e]
  rw [List.set_append_right k _ (by omega), hl, Nat.sub_self, List.set_cons_zero, List.append_assoc, List.singleton_append]
theorem mixed_end (a b c : List UInt8) (n : Nat) : mixed a b c n n = Crc.xor3 (a.take n) (b.take n) (c.take n) := by simp [mixed]
theorem fin (a b c : List UInt8) (n : Nat) (h1 : n ≤ a.length) (h2 : n ≤ b.length) (h3 : n ≤ c.length) :
    (uv (sums 0#32 [Crc.xor3 (a.take n) (b.take n) (c.take n)]) == bits .xor .u32 (bits .xor .u32 (uv (sums 0#32 [a.take n])) (uv (sums 0#32 [b.take n]))) (uv (sums 0#32 [c.take n]))) = true := by
  rw [uv_xor, uv_xor, beq_iff_eq, uv_inj]
  exact Crc.add_xor3 _ _ _ (by simp; omega) (by simp; omega)
theorem strs_cell (u : World) (n : Nat) (l : List UInt8) (hl : l.length ≤ maxLen) (h : u.cell? ⟨n, 0, none⟩ = some (.string (str l))) : IsStrs u (some ⟨n, 0, none⟩) 1 [l] := by
  refine ⟨rfl, by decide, by simpa using hl, fun _ => ⟨_, 0, rfl, ?_⟩⟩
  intro i hi
  obtain rfl : i = 0 := by omega
  exact h
/-- What each operation of the last statement leaves. -/
def post14 (B k : Nat) (a b c X : List UInt8) : Nat → Value → World → Prop
  | 0, v, _ => v = .bool true
  | 1, v, _ => v = .bool true
  | 2, v, _ => v = .slice (some ⟨B, 0, none⟩) k k
  | 3, v, _ => v = .string (str X)
  | 4, v, w => ∃ g, v = .slice (some ⟨g, 0, none⟩) 1 1 ∧ w.cell? ⟨g, 0, none⟩ = some (.string (str X))
  | 5, v, _ => v = .int .u32 (uv (sums 0#32 [X]))
  | 6, v, _ => v = .string (str a)
  | 7, v, _ => v = .int .i64 (k : Int)
  | 8, v, _ => v = .string (str (a.take k))
  | 9, v, w => ∃ g, v = .slice (some ⟨g, 0, none⟩) 1 1 ∧ w.cell? ⟨g, 0, none⟩ = some (.string (str (a.take k)))
  | 10, v, _ => v = .int .u32 (uv (sums 0#32 [a.take k]))
  | 11, v, _ => v = .string (str b)
  | 12, v, _ => v = .int .i64 (k : Int)
  | 13, v, _ => v = .string (str (b.take k))
  | 14, v, w => ∃ g, v = .slice (some ⟨g, 0, none⟩) 1 1 ∧ w.cell? ⟨g, 0, none⟩ = some (.string (str (b.take k)))
  | 15, v, _ => v = .int .u32 (uv (sums 0#32 [b.take k]))
  | 16, v, _ => v = .int .u32 (bits .xor .u32 (uv (sums 0#32 [a.take k])) (uv (sums 0#32 [b.take k])))
  | 17, v, _ => v = .string (str c)
  | 18, v, _ => v = .int .i64 (k : Int)
  | 19, v, _ => v = .string (str (c.take k))
  | 20, v, w => ∃ g, v = .slice (some ⟨g, 0, none⟩) 1 1 ∧ w.cell? ⟨g, 0, none⟩ = some (.string (str (c.take k)))
  | 21, v, _ => v = .int .u32 (uv (sums 0#32 [c.take k]))
  | 22, v, _ => v = .int .u32 (bits .xor .u32 (bits .xor .u32 (uv (sums 0#32 [a.take k])) (uv (sums 0#32 [b.take k]))) (uv (sums 0#32 [c.take k])))
  | _, v, _ => v = .bool true
theorem post14_later (B k : Nat) (a b c X : List UInt8) : ∀ i v w w', post14 B k a b c X i v w → Below w.heap.size w w' → post14 B k a b c X i v w' := by
  intro i v w w' h hb
  have key : ∀ l : List UInt8, (∃ g, v = .slice (some ⟨g, 0, none⟩) 1 1 ∧ w.cell? ⟨g, 0, none⟩ = some (.string (str l))) → ∃ g, v = .slice (some ⟨g, 0, none⟩) 1 1 ∧ w'.cell? ⟨g, 0, none⟩ = some (.string (str l)) := by
    rintro l ⟨g, rfl, hc⟩
    exact ⟨g, rfl, (hb.cell (p := ⟨g, 0, none⟩) (lt_of_cell hc)).trans hc⟩
  match i, h with
  | 0, h => exact h
  | 1, h => exact h
  | 2, h => exact h
  | 3, h => exact h
  | 4, h => exact key _ h
  | 5, h => exact h
  | 6, h => exact h
  | 7, h => exact h
  | 8, h => exact h
  | 9, h => exact key _ h
  | 10, h => exact h
  | 11, h => exact h
  | 12, h => exact h
  | 13, h => exact h
  | 14, h => exact key _ h
  | 15, h => exact h
  | 16, h => exact h
  | 17, h => exact h
  | 18, h => exact h
  | 19, h => exact h
  | 20, h => exact key _ h
  | 21, h => exact h
  | 22, h => exact h
  | 23, h => exact h
  | n + 24, h => exact h
set_option maxRecDepth 100000 in
set_option maxHeartbeats 8000000 in
theorem walk (a b c : List UInt8) (w : World) (ha : a.length ≤ maxLen) (hb : b.length ≤ maxLen) (hc : c.length ≤ maxLen) (hT : Tab w) :
    Calls Tryd.prog 8 #[.string (str a), .string (str b), .string (str c)] w fun e w' => e = .returned (.bool true) ∧ Below w.heap.size w w' := by
  unfold maxLen at ha hb hc
  go_enter Tryd.func8, Tryd.ntmps8
  go_wp2_with fail
  refine (awake_any _ hT).mono ?_
  rintro e w1 ⟨rfl, hb1⟩
  have Hb1 := Lib.hid hb1
  have HT1 := Lib.hid (hT.below hb1)
  clear hb1
  go_upto_if 17 with fail
  go_cut [8] (fun s wx => ∃ m : Nat, s = .int .i64 (m : Int) ∧ m ≤ a.length ∧ m ≤ b.length ∧ wx = w1)
  case first =>
    by_cases h : b.length < a.length
    · go_wp2_with fail
      go_meet
      case rel => exact ⟨b.length, rfl, by omega, by omega, rfl⟩
    · go_wp2_with fail
      go_meet
      case rel => exact ⟨a.length, rfl, by omega, by omega, rfl⟩
  case rest =>
  obtain ⟨m, rfl, ma, mb, rfl⟩ := hcut
  go_upto_if 23 with fail
  go_cut [8] (fun s wx => ∃ n : Nat, s = .int .i64 (n : Int) ∧ n ≤ a.length ∧ n ≤ b.length ∧ n ≤ c.length ∧ wx = wc)
  case first =>
    by_cases h : c.length < m
    · go_wp2_with fail
      go_meet
      case rel => exact ⟨c.length, rfl, by omega, by omega, by omega, rfl⟩
    · go_wp2_with fail
      go_meet
      case rel => exact ⟨m, rfl, by omega, by omega, by omega, rfl⟩
  case rest =>
  obtain ⟨r, rfl, ra, rb, rc, rfl⟩ := hcut
  go_upto_if 27 with fail
  go_cut [8] (fun s wx => ∃ n : Nat, s = .int .i64 (n : Int) ∧ n ≤ 200 ∧ n ≤ a.length ∧ n ≤ b.length ∧ n ≤ c.length ∧ wx = wc)
  case first =>
    by_cases h : 200 < r
    · go_wp2_with fail
      go_meet
      case rel => exact ⟨200, rfl, by omega, by omega, by omega, by omega, rfl⟩
    · go_wp2_with fail
      go_meet
      case rel => exact ⟨r, rfl, by omega, by omega, by omega, by omega, rfl⟩
  case rest =>
  obtain ⟨n, rfl, h200, na, nb, nc, rfl⟩ := hcut
  clear ma mb ra rb rc
  have hmk : ∀ w, (Instr.makeSlice 34 (.int .i64 (n : Int)) (.int .i64 (n : Int))).run Tryd.prog w = .ok (.slice (some ⟨w.heap.size, 0, none⟩) n n) (w.alloc (zeroObj n)) := fun w => by
    have h := mkn w n (by omega) (by omega)
    rwa [Int.toNat_natCast] at h
  have Hz := Lib.hid (bytes_zero wc n)
  have Hbz := Lib.hid (balloc Hb1.out (zeroObj n))
  have HB := Lib.hid Hb1.out.size
  go_wp2
  clear hmk
  obtain ⟨B, HBB⟩ : ∃ B, Hid (wc.heap.size = B) := ⟨_, Lib.hid rfl⟩
  obtain ⟨w2, Hw2⟩ : ∃ w2, Hid (wc.alloc (zeroObj n) = w2) := ⟨_, Lib.hid rfl⟩
  rw [HBB.out, Hw2.out] at Hz
  rw [HBB.out] at HB
  rw [Hw2.out] at Hbz
  rw [HBB.out, Hw2.out]
  go_loopw [10] (fun i wr => ∃ k : Nat, k ≤ n ∧ i = .int .i64 k ∧ Bytes wr B (mixed a b c n k) ∧ Below w.heap.size w wr) (fun i _ => n - (intOf i).toNat)
  case atStart => exact ⟨0, Nat.zero_le _, rfl, by simpa [mixed, Crc.xor3] using Hz.out, Hbz.out⟩
  case round =>
    obtain ⟨k, hk, rfl, hby, hbel⟩ := hrel
    have Hby := Lib.hid hby
    have Hbel := Lib.hid hbel
    clear hby hbel
    by_cases hlt : k < n
    · have hml := mixed_length a b c n k na nb nc hk
      have hnx := mixed_next a b c n k na nb nc hlt
      obtain ⟨wd, Hwd⟩ : ∃ wd, Hid (wr.drew = wd) := ⟨_, Lib.hid rfl⟩
      have hbd : Bytes wd B (mixed a b c n k) := by rw [← Hwd.out]; exact ⟨Hby.out.cell, Hby.out.free⟩
      have hed : Below w.heap.size w wd := by rw [← Hwd.out]; exact Hbel.out.drew
      have hfr := hbd.free k (by omega)
      have hcl := hbd.cell k (by omega)
      have Hbd := Lib.hid hbd
      have Hed := Lib.hid hed
      have Hnx := Lib.hid hnx
      clear hbd hed hml hnx
      have ka : k < a.length := by omega
      have kb : k < b.length := by omega
      have kc : k < c.length := by omega
      have i1 : (k : Int) < (a.length : Int) := by omega
      have i2 : (k : Int) < (b.length : Int) := by omega
      have i3 : (k : Int) < (c.length : Int) := by omega
      have i0 : 0 ≤ (k : Int) := by omega
      have i4 : (k : Int) < (n : Int) := by omega
      go_wp2
      go_still_tail 14, (by kernel_rfl)
      change wpList _ _ _ _ _ wr.drew
      rw [Hwd.out]
      go_wp2
      go_roundw
      case rel =>
        refine ⟨k + 1, by omega, by go_num, ?_, Hed.out.setCell HB.out _⟩
        rw [Hnx.out, u8_xor, u8_xor]
        exact Hbd.out.set _ _
      case measure => simp [intOf]; omega
    · obtain rfl : k = n := by omega
      have hby := Hby.out
      rw [mixed_end] at hby
      have hfin := fin a b c k na nb nc
      have hxl : (Crc.xor3 (a.take k) (b.take k) (c.take k)).length = k := xor3_length _ _ _ k (by simp; omega) (by simp; omega) (by simp; omega)
      obtain ⟨X, HX⟩ : ∃ X, Hid (Crc.xor3 (a.take k) (b.take k) (c.take k) = X) := ⟨_, Lib.hid rfl⟩
      rw [HX.out] at hby hfin hxl
      have Hkeep : Hid (∀ u, Below wr.heap.size wr u → (Below wr.heap.size wr u ∧ (convert 34 9 (.slice (some ⟨B, 0, none⟩) k k)).run Tryd.prog u = .ok (.string (str X)) u)) := Lib.hid fun u hu => ⟨hu, by
        have h := (hby.below hu).back k
        rwa [hxl] at h⟩
      have HTk : Hid (∀ u, Below wr.heap.size wr u → Tab u) := Lib.hid fun u hu => hT.below (bnext Hbel.out hu)
      have Hfin := Lib.hid hfin
      have kX : X.length ≤ maxLen := by rw [hxl]; unfold maxLen; omega
      have kA : (List.take k a).length ≤ maxLen := by simp only [List.length_take]; unfold maxLen; omega
      have kB : (List.take k b).length ≤ maxLen := by simp only [List.length_take]; unfold maxLen; omega
      have kC : (List.take k c).length ≤ maxLen := by simp only [List.length_take]; unfold maxLen; omega
      have i0 : 0 ≤ (k : Int) := by omega
      have i1 : (k : Int) ≤ (a.length : Int) := by omega
      have i2 : (k : Int) ≤ (b.length : Int) := by omega
      have i3 : (k : Int) ≤ (c.length : Int) := by omega
      clear hby hfin hxl
      go_wp2_with fail
      refine wp_region_inv (by kernel_rfl) (fun u => Below wr.heap.size wr u) (post14 B k a b c X) (Below.refl _ _).drew (by kernel_rfl) (by kernel_rfl) (by kernel_rfl) (post14_later B k a b c X) ?allops ?ends
      case ends =>
        intro act u hdf hsz hS hrd hdn
        have h6 : act.tmps.getD 6 undef = .bool true := hdn 25 _ _ rfl rfl
        go_wp2
        refine bodyPost_ret (results_tmp rfl _ _ _) hdf ?_
        exact ⟨congrArg _ h6, bnext Hbel.out hS⟩
      case allops =>
        refine of_allOps ?_
        refine And.intro ?_ (And.intro ?_ (And.intro ?_ (And.intro ?_ (And.intro ?_ (And.intro ?_ (And.intro ?_ (And.intro ?_ (And.intro ?_ (And.intro ?_ (And.intro ?_ (And.intro ?_ (And.intro ?_ (And.intro ?_ (And.intro ?_ (And.intro ?_ (And.intro ?_ (And.intro ?_ (And.intro ?_ (And.intro ?_ (And.intro ?_ (And.intro ?_ (And.intro ?_ (And.intro ?_ (And.intro ?_ (And.intro ?_ trivial)))))))))))))))))))))))))
        · intro act u hdf hS hrd hdp K hK
          have r7 : act.tmps.getD 7 undef = .bool true := hrd 7 (.inl (by decide))
          refine op_yes (wanted_plain rfl) (op_value (v := .bool true) (w' := u) ?_ (hK.out _ _ hS (Below.refl _ _) rfl))
          simp only [execOp, Act.eval, r7]
          rfl
        · intro act u hdf hS hrd hdp K hK
          have p0 : act.tmps.getD 49 undef = .bool true := hdp ⟨0, .data⟩ (by simp) rfl _ _ rfl rfl
          refine op_yes (wanted_plain rfl) (op_value (v := .bool true) (w' := u) ?_ (hK.out _ _ hS (Below.refl _ _) rfl))
          simp only [execOp, Act.eval, p0]
          rfl
        · intro act u hdf hS hrd hdp K hK
          have r9 : act.tmps.getD 9 undef = .slice (some ⟨B, 0, none⟩) k k := hrd 9 (.inl (by decide))
          have gd : act.tmps.getD 50 undef = .bool true := hdp ⟨1, .guard⟩ (by simp) rfl _ _ rfl rfl
          refine op_yes (wanted_yes rfl rfl gd) (op_value (v := .slice (some ⟨B, 0, none⟩) k k) (w' := u) ?_ (hK.out _ _ hS (Below.refl _ _) rfl))
          simp only [execOp, Act.eval, r9]
          rfl
        · intro act u hdf hS hrd hdp K hK
          have p2 : act.tmps.getD 51 undef = .slice (some ⟨B, 0, none⟩) k k := hdp ⟨2, .data⟩ (by simp) rfl _ _ rfl rfl
          have gd : act.tmps.getD 50 undef = .bool true := hdp ⟨1, .guard⟩ (by simp) rfl _ _ rfl rfl
          refine op_yes (wanted_yes rfl rfl gd) (op_value (v := .string (str X)) (w' := u) ?_ (hK.out _ _ hS (Below.refl _ _) rfl))
          simp only [execOp, Act.eval, p2]
          have hcv := (Hkeep.out _ hS).2
          go_simp
        · intro act u hdf hS hrd hdp K hK
          have p3 : act.tmps.getD 52 undef = .string (str X) := hdp ⟨3, .data⟩ (by simp) rfl _ _ rfl rfl
          have gd : act.tmps.getD 50 undef = .bool true := hdp ⟨1, .guard⟩ (by simp) rfl _ _ rfl rfl
          refine op_yes (wanted_yes rfl rfl gd) (op_value (v := .slice (some ⟨u.heap.size, 0, none⟩) 1 1) (w' := u.alloc (.cells #[.string (str (X))] 9)) ?_ (hK.out _ _ (balloc hS _) ((Below.refl _ _).alloc (Nat.le_refl _) _) ⟨_, rfl, by simp [go_sem]⟩))
          simp only [execOp, List.map_toArray, List.map_cons, List.map_nil, Act.eval, p3]
          go_simp
        · intro act u hdf hS hrd hdp K hK
          obtain ⟨g, p4, hg⟩ := hdp ⟨4, .data⟩ (by simp) rfl _ _ rfl rfl
          replace p4 : act.tmps.getD 53 undef = .slice (some ⟨g, 0, none⟩) 1 1 := p4
          replace hg : u.cell? ⟨g, 0, none⟩ = some (.string (str (X))) := hg
          have gd : act.tmps.getD 50 undef = .bool true := hdp ⟨1, .guard⟩ (by simp) rfl _ _ rfl rfl
          refine op_yes (wanted_yes rfl rfl gd) (op_call (f := 12) (args := #[.slice (some ⟨g, 0, none⟩) 1 1]) (v := .int .u32 (uv (sums 0#32 [X]))) (fun w' => u = w') ?_ (Of_any _ _ _ [X] _ (strs_cell _ _ _ kX hg) (HTk.out _ hS)) (fun w' hw => hw ▸ hK.out _ _ hS (Below.refl _ _) rfl))
          simp only [execOp]
          go_simp
        · intro act u hdf hS hrd hdp K hK
          have r0 : act.tmps.getD 0 undef = .string (str a) := hrd 0 (.inl (by decide))
          have gd : act.tmps.getD 50 undef = .bool true := hdp ⟨1, .guard⟩ (by simp) rfl _ _ rfl rfl
          refine op_yes (wanted_yes rfl rfl gd) (op_value (v := .string (str a)) (w' := u) ?_ (hK.out _ _ hS (Below.refl _ _) rfl))
          simp only [execOp, Act.eval, r0]
          rfl
        · intro act u hdf hS hrd hdp K hK
          have r8 : act.tmps.getD 8 undef = .int .i64 (k : Int) := hrd 8 (.inl (by decide))
          have gd : act.tmps.getD 50 undef = .bool true := hdp ⟨1, .guard⟩ (by simp) rfl _ _ rfl rfl
          refine op_yes (wanted_yes rfl rfl gd) (op_value (v := .int .i64 (k : Int)) (w' := u) ?_ (hK.out _ _ hS (Below.refl _ _) rfl))
          simp only [execOp, Act.eval, r8]
          rfl
        · intro act u hdf hS hrd hdp K hK
          have p6 : act.tmps.getD 55 undef = .string (str a) := hdp ⟨6, .data⟩ (by simp) rfl _ _ rfl rfl
          have p7 : act.tmps.getD 56 undef = .int .i64 (k : Int) := hdp ⟨7, .data⟩ (by simp) rfl _ _ rfl rfl
          have gd : act.tmps.getD 50 undef = .bool true := hdp ⟨1, .guard⟩ (by simp) rfl _ _ rfl rfl
          refine op_yes (wanted_yes rfl rfl gd) (op_value (v := .string (str (a.take k))) (w' := u) ?_ (hK.out _ _ hS (Below.refl _ _) rfl))
          simp only [execOp, Act.eval, p6]
          go_simp
        · intro act u hdf hS hrd hdp K hK
          have p8 : act.tmps.getD 57 undef = .string (str (a.take k)) := hdp ⟨8, .data⟩ (by simp) rfl _ _ rfl rfl
          have gd : act.tmps.getD 50 undef = .bool true := hdp ⟨1, .guard⟩ (by simp) rfl _ _ rfl rfl
          refine op_yes (wanted_yes rfl rfl gd) (op_value (v := .slice (some ⟨u.heap.size, 0, none⟩) 1 1) (w' := u.alloc (.cells #[.string (str (a.take k))] 9)) ?_ (hK.out _ _ (balloc hS _) ((Below.refl _ _).alloc (Nat.le_refl _) _) ⟨_, rfl, by simp [go_sem]⟩))
          simp only [execOp, List.map_toArray, List.map_cons, List.map_nil, Act.eval, p8]
          go_simp
        · intro act u hdf hS hrd hdp K hK
          obtain ⟨g, p9, hg⟩ := hdp ⟨9, .data⟩ (by simp) rfl _ _ rfl rfl
          replace p9 : act.tmps.getD 58 undef = .slice (some ⟨g, 0, none⟩) 1 1 := p9
          replace hg : u.cell? ⟨g, 0, none⟩ = some (.string (str (a.take k))) := hg
          have gd : act.tmps.getD 50 undef = .bool true := hdp ⟨1, .guard⟩ (by simp) rfl _ _ rfl rfl
          refine op_yes (wanted_yes rfl rfl gd) (op_call (f := 12) (args := #[.slice (some ⟨g, 0, none⟩) 1 1]) (v := .int .u32 (uv (sums 0#32 [a.take k]))) (fun w' => u = w') ?_ (Of_any _ _ _ [a.take k] _ (strs_cell _ _ _ kA hg) (HTk.out _ hS)) (fun w' hw => hw ▸ hK.out _ _ hS (Below.refl _ _) rfl))
          simp only [execOp]
          go_simp
        · intro act u hdf hS hrd hdp K hK
          have r1 : act.tmps.getD 1 undef = .string (str b) := hrd 1 (.inl (by decide))
          have gd : act.tmps.getD 50 undef = .bool true := hdp ⟨1, .guard⟩ (by simp) rfl _ _ rfl rfl
          refine op_yes (wanted_yes rfl rfl gd) (op_value (v := .string (str b)) (w' := u) ?_ (hK.out _ _ hS (Below.refl _ _) rfl))
          simp only [execOp, Act.eval, r1]
          rfl
        · intro act u hdf hS hrd hdp K hK
          have r8 : act.tmps.getD 8 undef = .int .i64 (k : Int) := hrd 8 (.inl (by decide))
          have gd : act.tmps.getD 50 undef = .bool true := hdp ⟨1, .guard⟩ (by simp) rfl _ _ rfl rfl
          refine op_yes (wanted_yes rfl rfl gd) (op_value (v := .int .i64 (k : Int)) (w' := u) ?_ (hK.out _ _ hS (Below.refl _ _) rfl))
          simp only [execOp, Act.eval, r8]
          rfl
        · intro act u hdf hS hrd hdp K hK
          have p11 : act.tmps.getD 60 undef = .string (str b) := hdp ⟨11, .data⟩ (by simp) rfl _ _ rfl rfl
          have p12 : act.tmps.getD 61 undef = .int .i64 (k : Int) := hdp ⟨12, .data⟩ (by simp) rfl _ _ rfl rfl
          have gd : act.tmps.getD 50 undef = .bool true := hdp ⟨1, .guard⟩ (by simp) rfl _ _ rfl rfl
          refine op_yes (wanted_yes rfl rfl gd) (op_value (v := .string (str (b.take k))) (w' := u) ?_ (hK.out _ _ hS (Below.refl _ _) rfl))
          simp only [execOp, Act.eval, p11]
          go_simp
        · intro act u hdf hS hrd hdp K hK
          have p13 : act.tmps.getD 62 undef = .string (str (b.take k)) := hdp ⟨13, .data⟩ (by simp) rfl _ _ rfl rfl
          have gd : act.tmps.getD 50 undef = .bool true := hdp ⟨1, .guard⟩ (by simp) rfl _ _ rfl rfl
          refine op_yes (wanted_yes rfl rfl gd) (op_value (v := .slice (some ⟨u.heap.size, 0, none⟩) 1 1) (w' := u.alloc (.cells #[.string (str (b.take k))] 9)) ?_ (hK.out _ _ (balloc hS _) ((Below.refl _ _).alloc (Nat.le_refl _) _) ⟨_, rfl, by simp [go_sem]⟩))
          simp only [execOp, List.map_toArray, List.map_cons, List.map_nil, Act.eval, p13]
          go_simp
        · intro act u hdf hS hrd hdp K hK
          obtain ⟨g, p14, hg⟩ := hdp ⟨14, .data⟩ (by simp) rfl _ _ rfl rfl
          replace p14 : act.tmps.getD 63 undef = .slice (some ⟨g, 0, none⟩) 1 1 := p14
          replace hg : u.cell? ⟨g, 0, none⟩ = some (.string (str (b.take k))) := hg
          have gd : act.tmps.getD 50 undef = .bool true := hdp ⟨1, .guard⟩ (by simp) rfl _ _ rfl rfl
          refine op_yes (wanted_yes rfl rfl gd) (op_call (f := 12) (args := #[.slice (some ⟨g, 0, none⟩) 1 1]) (v := .int .u32 (uv (sums 0#32 [b.take k]))) (fun w' => u = w') ?_ (Of_any _ _ _ [b.take k] _ (strs_cell _ _ _ kB hg) (HTk.out _ hS)) (fun w' hw => hw ▸ hK.out _ _ hS (Below.refl _ _) rfl))
          simp only [execOp]
          go_simp
        · intro act u hdf hS hrd hdp K hK
          have p10 : act.tmps.getD 59 undef = .int .u32 (uv (sums 0#32 [a.take k])) := hdp ⟨10, .data⟩ (by simp) rfl _ _ rfl rfl
          have p15 : act.tmps.getD 64 undef = .int .u32 (uv (sums 0#32 [b.take k])) := hdp ⟨15, .data⟩ (by simp) rfl _ _ rfl rfl
          have gd : act.tmps.getD 50 undef = .bool true := hdp ⟨1, .guard⟩ (by simp) rfl _ _ rfl rfl
          refine op_yes (wanted_yes rfl rfl gd) (op_value (v := .int .u32 (bits .xor .u32 (uv (sums 0#32 [a.take k])) (uv (sums 0#32 [b.take k])))) (w' := u) ?_ (hK.out _ _ hS (Below.refl _ _) rfl))
          simp only [execOp, Act.eval, p10, p15]
          go_simp
        · intro act u hdf hS hrd hdp K hK
          have r2 : act.tmps.getD 2 undef = .string (str c) := hrd 2 (.inl (by decide))
          have gd : act.tmps.getD 50 undef = .bool true := hdp ⟨1, .guard⟩ (by simp) rfl _ _ rfl rfl
          refine op_yes (wanted_yes rfl rfl gd) (op_value (v := .string (str c)) (w' := u) ?_ (hK.out _ _ hS (Below.refl _ _) rfl))
          simp only [execOp, Act.eval, r2]
          rfl
        · intro act u hdf hS hrd hdp K hK
          have r8 : act.tmps.getD 8 undef = .int .i64 (k : Int) := hrd 8 (.inl (by decide))
          have gd : act.tmps.getD 50 undef = .bool true := hdp ⟨1, .guard⟩ (by simp) rfl _ _ rfl rfl
          refine op_yes (wanted_yes rfl rfl gd) (op_value (v := .int .i64 (k : Int)) (w' := u) ?_ (hK.out _ _ hS (Below.refl _ _) rfl))
          simp only [execOp, Act.eval, r8]
          rfl
        · intro act u hdf hS hrd hdp K hK
          have p17 : act.tmps.getD 66 undef = .string (str c) := hdp ⟨17, .data⟩ (by simp) rfl _ _ rfl rfl
          have p18 : act.tmps.getD 67 undef = .int .i64 (k : Int) := hdp ⟨18, .data⟩ (by simp) rfl _ _ rfl rfl
          have gd : act.tmps.getD 50 undef = .bool true := hdp ⟨1, .guard⟩ (by simp) rfl _ _ rfl rfl
          refine op_yes (wanted_yes rfl rfl gd) (op_value (v := .string (str (c.take k))) (w' := u) ?_ (hK.out _ _ hS (Below.refl _ _) rfl))
          simp only [execOp, Act.eval, p17]
          go_simp
        · intro act u hdf hS hrd hdp K hK
          have p19 : act.tmps.getD 68 undef = .string (str (c.take k)) := hdp ⟨19, .data⟩ (by simp) rfl _ _ rfl rfl
          have gd : act.tmps.getD 50 undef = .bool true := hdp ⟨1, .guard⟩ (by simp) rfl _ _ rfl rfl
          refine op_yes (wanted_yes rfl rfl gd) (op_value (v := .slice (some ⟨u.heap.size, 0, none⟩) 1 1) (w' := u.alloc (.cells #[.string (str (c.take k))] 9)) ?_ (hK.out _ _ (balloc hS _) ((Below.refl _ _).alloc (Nat.le_refl _) _) ⟨_, rfl, by simp [go_sem]⟩))
          simp only [execOp, List.map_toArray, List.map_cons, List.map_nil, Act.eval, p19]
          go_simp
        · intro act u hdf hS hrd hdp K hK
          obtain ⟨g, p20, hg⟩ := hdp ⟨20, .data⟩ (by simp) rfl _ _ rfl rfl
          replace p20 : act.tmps.getD 69 undef = .slice (some ⟨g, 0, none⟩) 1 1 := p20
          replace hg : u.cell? ⟨g, 0, none⟩ = some (.string (str (c.take k))) := hg
          have gd : act.tmps.getD 50 undef = .bool true := hdp ⟨1, .guard⟩ (by simp) rfl _ _ rfl rfl
          refine op_yes (wanted_yes rfl rfl gd) (op_call (f := 12) (args := #[.slice (some ⟨g, 0, none⟩) 1 1]) (v := .int .u32 (uv (sums 0#32 [c.take k]))) (fun w' => u = w') ?_ (Of_any _ _ _ [c.take k] _ (strs_cell _ _ _ kC hg) (HTk.out _ hS)) (fun w' hw => hw ▸ hK.out _ _ hS (Below.refl _ _) rfl))
          simp only [execOp]
          go_simp
        · intro act u hdf hS hrd hdp K hK
          have p16 : act.tmps.getD 65 undef = .int .u32 (bits .xor .u32 (uv (sums 0#32 [a.take k])) (uv (sums 0#32 [b.take k]))) := hdp ⟨16, .data⟩ (by simp) rfl _ _ rfl rfl
          have p21 : act.tmps.getD 70 undef = .int .u32 (uv (sums 0#32 [c.take k])) := hdp ⟨21, .data⟩ (by simp) rfl _ _ rfl rfl
          have gd : act.tmps.getD 50 undef = .bool true := hdp ⟨1, .guard⟩ (by simp) rfl _ _ rfl rfl
          refine op_yes (wanted_yes rfl rfl gd) (op_value (v := .int .u32 (bits .xor .u32 (bits .xor .u32 (uv (sums 0#32 [a.take k])) (uv (sums 0#32 [b.take k]))) (uv (sums 0#32 [c.take k])))) (w' := u) ?_ (hK.out _ _ hS (Below.refl _ _) rfl))
          simp only [execOp, Act.eval, p16, p21]
          go_simp
        · intro act u hdf hS hrd hdp K hK
          have p5 : act.tmps.getD 54 undef = .int .u32 (uv (sums 0#32 [X])) := hdp ⟨5, .data⟩ (by simp) rfl _ _ rfl rfl
          have p22 : act.tmps.getD 71 undef = .int .u32 (bits .xor .u32 (bits .xor .u32 (uv (sums 0#32 [a.take k])) (uv (sums 0#32 [b.take k]))) (uv (sums 0#32 [c.take k]))) := hdp ⟨22, .data⟩ (by simp) rfl _ _ rfl rfl
          have gd : act.tmps.getD 50 undef = .bool true := hdp ⟨1, .guard⟩ (by simp) rfl _ _ rfl rfl
          refine op_yes (wanted_yes rfl rfl gd) (op_value (v := .bool true) (w' := u) ?_ (hK.out _ _ hS (Below.refl _ _) rfl))
          simp only [execOp, Act.eval, p5, p22]
          have hfin := Hfin.out
          go_simp
        · intro act u hdf hS hrd hdp K hK
          have p1 : act.tmps.getD 50 undef = .bool true := hdp ⟨1, .data⟩ (by simp) rfl _ _ rfl rfl
          have p23 : act.tmps.getD 72 undef = .bool true := hdp ⟨23, .data⟩ (by simp) rfl _ _ rfl rfl
          refine op_yes (wanted_plain rfl) (op_value (v := .bool true) (w' := u) ?_ (hK.out _ _ hS (Below.refl _ _) rfl))
          simp only [execOp, Act.eval, p1, p23]
          go_simp
        · intro act u hdf hS hrd hdp K hK
          have p24 : act.tmps.getD 73 undef = .bool true := hdp ⟨24, .data⟩ (by simp) rfl _ _ rfl rfl
          refine op_yes (wanted_plain rfl) (op_value (v := .bool true) (w' := u) ?_ (hK.out _ _ hS (Below.refl _ _) rfl))
          simp only [execOp, Act.eval, p24]
          rfl
set_option maxRecDepth 100000 in
theorem lifted (os : Os) (started : os.Started) (H : Type) (enc : TypeId × Value → H) :
    ReturnsInHanded {} Tryd.checked os 8 .any (fun w args => (Rows.crcThreeSpec.pre enc Tryd.prog Tryd.f8 [] false w args ∧ laidMetH Tryd.prog laidT w) ∧ sizedMet enc Tryd.prog Tryd.f8 (OpenSpec.ofChange Rows.crcThreeSpec) false w args)
      (Rows.crcThreeSpec.post enc Tryd.prog Tryd.f8 false true false false) := by
  refine returnsInHanded_of_change_and (C := Tryd.checked) (X := fun w _ => laidMetH Tryd.prog laidT w) (fun _ _ _ hh h => h.of_heap hh) own started (by kernel_rfl) Tryd.func8
    (ChangeSpec.witness_shaped (enc := enc) (C := Tryd.checked) (os := os) (X := fun w _ => laidMetH Tryd.prog laidT w) false (World.doorLaid Tryd.prog 400 os) #[.string ByteArray.empty, .string ByteArray.empty, .string ByteArray.empty] 8 rfl (World.shaped_of_RefB (by kernel_rfl) (by kernel_rfl)) (by kernel_rfl) (by kernel_rfl) (by kernel_rfl) (door_met os _)) ?_
  intro W base args ds gs before hval0 hW _ _ hL _
  have hval : ∀ (j : Nat) t v, Tryd.f8.params[j]? = some t → args[j]? = some v → Value.okWide Tryd.prog W .any base t v := hval0
  have hW' := hW
  obtain ⟨p, q, hA0, hV, rfl, hfz, hnd⟩ := hW
  have hA : DataW.TrodAll enc Tryd.prog W 0 (fun _ => true) true Tryd.f8.params.toList args.toList ds p := hA0
  rw [Tryd.params8] at hA hval
  obtain ⟨v0, vs0, d0, ds0, p0, q0, hargs, rfl, rfl, h0, r0⟩ := trodAll_cons hA
  obtain ⟨v1, vs1, d1, ds1, p1, q1, rfl, rfl, rfl, h1, r1⟩ := trodAll_cons r0
  obtain ⟨v2, vs2, d2, ds2, p2, q2, rfl, rfl, rfl, h2, r2⟩ := trodAll_cons r1
  obtain ⟨rfl, rfl, rfl⟩ := trodAll_nil r2
  obtain rfl : args = #[v0, v1, v2] := by cases args; simp_all
  obtain ⟨s0, rfl, rfl, rfl, w0⟩ := open_string Tryd.underlying9 (hval 0 9 v0 rfl rfl) h0
  obtain ⟨a0, rfl⟩ := str_of s0
  rw [str_size] at w0
  obtain ⟨s1, rfl, rfl, rfl, w1⟩ := open_string Tryd.underlying9 (hval 1 9 v1 rfl rfl) h1
  obtain ⟨a1, rfl⟩ := str_of s1
  rw [str_size] at w1
  obtain ⟨s2, rfl, rfl, rfl, w2⟩ := open_string Tryd.underlying9 (hval 2 9 v2 rfl rfl) h2
  obtain ⟨a2, rfl⟩ := str_of s2
  rw [str_size] at w2
  clear hA0 hval0
  refine (walk a0 a1 a2 W w0 w1 w2 (tab_of_laid hL)).mono fun e W' ⟨he, bel⟩ => ?_
  subst he
  exact ⟨_, rfl, law_post laidOut (by rw [Tryd.params8]; decide +kernel) rfl Tryd.underlying4 rfl hW' (fun _ => rfl) bel⟩
theorem over : Rows.crcThreeRow.holds Tryd.pinned (OpenSpec.ofChange Rows.crcThreeSpec) :=
  OpenClaim.holds_of_wide 8 Tryd.f8 rfl rfl rfl rfl rfl rfl rfl ⟨rfl, rfl, rfl, rfl, rfl⟩ rfl rfl rfl rfl rfl (by kernel_rfl) Tryd.func8 (by kernel_rfl)
    (of_decide_eq_true (by kernel_rfl)) (by unfold Func.isWrapper; first | (rw [if_pos (by decide +kernel)]; kernel_rfl) | (rw [if_neg (by decide +kernel)]; exact ⟨rfl, rfl⟩))
    (fun os started H enc _ => lifted os started H enc)
theorem proved : Rows.CrcThreeCardSaid :=
  Claim7.holds_tied_plain_at .later [] [.data] true Rows.crcThreeCard.stood.harness false over (fun _ h => by cases h) (by kernel_rfl) (fun _ h => by cases h) crcThree_row_tie rfl ⟨rfl, rfl⟩ (by kernel_rfl) rfl
    (fun f fn hf hfn => by
      obtain rfl : f = 8 := Option.some.inj ((show Tryd.prog.funcNamed "lockgate/lockgatelaw02.CrcThree" = some 8 by kernel_rfl).symm.trans hf) |>.symm
      obtain rfl : fn = Tryd.f8 := (Option.some.inj (Tryd.func8.symm.trans hfn)).symm
      exact ⟨by kernel_rfl, fun j t ht => by
        rw [Tryd.params8] at ht
        have hm : t ∈ [9, 9, 9] := by simpa using Array.mem_of_getElem? ht
        have hall : ([9, 9, 9].all fun u => !Tryd.prog.wantsStandIn u) = true := by kernel_rfl
        exact (show Tryd.prog.wantsStandIn t = false by simpa using List.all_eq_true.1 hall t hm)⟩)
    (by kernel_rfl)
end Go.Proofs.YtbniahmnjljgmaaDoor.crcThree
