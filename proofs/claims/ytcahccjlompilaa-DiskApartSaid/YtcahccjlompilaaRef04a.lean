/- The sectors that the statements make: what the document's Fill gives. -/
import Derived.Test.YtcahccjlompilaaByt
import Derived.Test.YtcahccjlompilaaDiskNew
namespace Go.Proofs.Ytcahccjlompilaa
open Go.RowKit

theorem cvn (w : World) (n : Nat) : (convert 60 9 (.slice (some ⟨w.heap.size, 0, none⟩) n n)).run Try.prog (w.alloc (zeroObj n)) = .ok (.string (str (List.replicate n 0))) (w.alloc (zeroObj n)) := by
  have h := conv_new w (List.replicate n (0 : Int)) n (by simp)
  have e : (List.replicate n (0 : Int)).map (fun x => UInt8.ofNat x.toNat) = List.replicate n 0 := by simp
  rw [e] at h
  exact h
theorem Num2_any (n : Int) (h0 : 0 ≤ n) (h1 : n < 18446744073709551616) (w : World) :
    Calls Try.prog 76 #[.int .u64 n, .int .i64 2] w fun e w' => e = .returned (.string (str (be 2 n.toNat))) ∧ Below w.heap.size w w' := by
  obtain ⟨m, rfl⟩ := Int.eq_ofNat_of_zero_le h0
  rw [Int.toNat_natCast]
  have hbs := bs1
  go_enter Try.func76, Try.ntmps76
  go_wp2
  go_rounds 3
  go_wp2
  go_ret
  refine ⟨ret_str (by simp [be, u8m]), ?_⟩
  go_grown
theorem XText_any (l : List UInt8) (h : l.length ≤ 65535) (w : World) :
    Calls Try.prog 64 #[.string (str l)] w fun e w' => e = .returned (.tuple #[.string (str (textS l)), .int .i64 (textE l)]) ∧ Below w.heap.size w w' := by
  have e1 : textS l = be 2 l.length ++ l := if_pos h
  have e2 : textE l = 0 := if_pos h
  rw [e1, e2]
  clear e1 e2
  have hbe := be_length 2 l.length
  go_enter Try.func64, Try.ntmps64
  go_wp2_with (go_at_call 76; refine (Num2_any _ (by omega) (by omega) _).mono ?_; rintro e w1 ⟨rfl, hb⟩; rw [Int.toNat_natCast])
  go_ret2
  exact ⟨rfl, hb⟩
theorem XFill_any (l : List UInt8) (h : l.length ≤ 510) (w : World) :
    Calls Try.prog 51 #[.string (str l)] w fun e w' => e = .returned (.tuple #[.string (str (fillS l)), .int .i64 (fillE l)]) ∧ Below w.heap.size w w' := by
  have e1 : fillS l = be 2 l.length ++ l ++ List.replicate (510 - l.length) 0 := if_pos h
  have e2 : fillE l = 0 := if_pos h
  rw [e1, e2]
  clear e1 e2
  have hbe := be_length 2 l.length
  have ht : textS l = be 2 l.length ++ l := if_pos (by omega)
  have hmk := fun w => mkn w (512 - (2 + (l.length : Int))) (by omega) (by omega)
  have hcv := fun w => cvn w (512 - (2 + (l.length : Int))).toNat
  have hlen := List.length_replicate (n := 510 - l.length) (a := (0 : UInt8))
  rw [show (512 - (2 + (l.length : Int))).toNat = 510 - l.length from by omega] at hmk hcv
  go_enter Try.func51, Try.ntmps51
  go_wp2_with (go_at_call 64; refine (XText_any _ (by omega) _).mono ?_; rintro e w1 ⟨rfl, hb⟩; rw [ht])
  go_ret2
  exact ⟨rfl, hb.alloc hb.size _⟩
/-- A sector that begins with a byte's text. -/
def sec (x : Int) : List UInt8 := fillS [UInt8.ofNat x.toNat]
theorem sec_length (x : Int) : (sec x).length = 512 := fillS_length (by simp)
theorem sector_any (x : Int) (w : World) :
    Calls Try.prog 23 #[.int .u8 x] w fun e w' => e = .returned (.string (str (sec x))) ∧ Below w.heap.size w w' := by
  have hbs := bs1
  go_enter Try.func23, Try.ntmps23
  go_wp2_with fail
  refine (XFill_any [UInt8.ofNat x.toNat] (by simp) _).mono ?_
  rintro e w1 ⟨rfl, hb⟩
  have Hb := Lib.hid (bnext ((Below.refl w.heap.size w).alloc (Nat.le_refl _) _) hb)
  clear hb
  go_wp2
  go_ret
  exact ⟨rfl, Hb.out⟩
end Go.Proofs.Ytcahccjlompilaa
