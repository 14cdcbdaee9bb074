
/- The strongest mode that is so, and what fits. -/
import Derived.Test.YthpmodohfjjjcaaMode
namespace Go.Proofs.Ythpmodohfjjjcaa
open Go.RowKit

/-- A closure that tells of a mode whether it is so. -/
structure ClosM (w : World) (k : FuncId) (caps : List Value) (p : Int → Bool) : Prop where
  call : ∀ args u, (callFunc k args).run Try.prog u = .ok (.enter k args) u
  run : ∀ u, Below w.heap.size w u → ∀ m, Calls Try.prog k (.int .i64 m :: caps).toArray u fun e u' => e = .returned (.bool (p m)) ∧ Below u.heap.size u u'
theorem ClosM.below {w w' : World} {k : FuncId} {caps : List Value} {p : Int → Bool} (h : ClosM w k caps p) (b : Below w.heap.size w w') : ClosM w' k caps p :=
  ⟨h.call, fun u hu m => h.run u (b.trans (hu.mono b.size)) m⟩
def strP (p : Int → Bool) : Int := if p 2 then 2 else if p 1 then 1 else 0
set_option maxRecDepth 100000 in
set_option maxHeartbeats 1000000 in
theorem strongest_one (w : World) (k : FuncId) (q : Value) (p : Int → Bool) (hp : ClosM w k [q] p) :
    Calls Try.prog 78 #[.func (.func k) #[] #[q]] w fun e w' => e = .returned (.int .i64 (strP p)) ∧ Below w.heap.size w w' := by
  have Hp := Lib.hid hp
  have hcall := hp.call
  clear hp
  obtain ⟨x, Hx⟩ : ∃ x, Hid (p 2 = x) := ⟨_, Lib.hid rfl⟩
  obtain ⟨y, Hy⟩ : ∃ x, Hid (p 1 = x) := ⟨_, Lib.hid rfl⟩
  obtain ⟨R, HR⟩ : ∃ R, Hid (strP p = R) := ⟨_, Lib.hid rfl⟩
  have HR2 := HR
  rw [strP, Hx.out, Hy.out] at HR2
  rw [HR.out]
  go_enter Try.func78, Try.ntmps78
  go_wp2
  go_loopw [3] (fun i wr => ∃ n : Nat, i = .int .i64 (n : Int) ∧ n ≤ 2 ∧ Hid (1 < n ∨ n = 1 ∧ x = false ∨ n = 0 ∧ x = false ∧ y = false) ∧ Hid (Below w.heap.size w wr)) (fun i _ => (intOf i).toNat)
  case atStart => exact ⟨2, rfl, Nat.le_refl _, Lib.hid (.inl (by omega)), Lib.hid (Below.refl _ _)⟩
  case round =>
    obtain ⟨n, rfl, hn, HS, HB⟩ := hrel
    match n, hn with
    | 0, _ =>
      have Hr : Hid (x = false ∧ y = false) := Lib.hid (by have := HS.out; simpa using this)
      go_wp2
      go_ret
      exact ⟨ret_int (by rw [← HR2.out, Hr.out.1, Hr.out.2]; rfl), HB.out⟩
    | 1, _ =>
      have Hr : Hid (x = false) := Lib.hid (by have := HS.out; simpa using this)
      go_wp2_with fail
      refine (Hp.out.run _ HB.out 1).mono ?_
      rw [Hy.out]
      rintro e w1 ⟨rfl, hb⟩
      have HB1 := Lib.hid (bnext HB.out hb)
      clear hb
      cases y
      · go_wp2
        go_roundw
        case rel => exact ⟨0, by go_num, by omega, Lib.hid (by simp [Hr.out]), HB1⟩
        case measure => simp [intOf]
      · go_wp2
        go_ret
        exact ⟨ret_int (by rw [← HR2.out, Hr.out]; rfl), HB1.out⟩
    | 2, _ =>
      go_wp2_with fail
      refine (Hp.out.run _ HB.out 2).mono ?_
      rw [Hx.out]
      rintro e w1 ⟨rfl, hb⟩
      have HB1 := Lib.hid (bnext HB.out hb)
      clear hb
      cases x
      · go_wp2
        go_roundw
        case rel => exact ⟨1, by go_num, by omega, Lib.hid (by simp), HB1⟩
        case measure => simp [intOf]
      · go_wp2
        go_ret
        exact ⟨ret_int HR2.out, HB1.out⟩
set_option maxRecDepth 100000 in
set_option maxHeartbeats 1000000 in
theorem strongest_two (w : World) (k : FuncId) (q r : Value) (p : Int → Bool) (hp : ClosM w k [q, r] p) :
    Calls Try.prog 78 #[.func (.func k) #[] #[q, r]] w fun e w' => e = .returned (.int .i64 (strP p)) ∧ Below w.heap.size w w' := by
  have Hp := Lib.hid hp
  have hcall := hp.call
  clear hp
  obtain ⟨x, Hx⟩ : ∃ x, Hid (p 2 = x) := ⟨_, Lib.hid rfl⟩
  obtain ⟨y, Hy⟩ : ∃ x, Hid (p 1 = x) := ⟨_, Lib.hid rfl⟩
  obtain ⟨R, HR⟩ : ∃ R, Hid (strP p = R) := ⟨_, Lib.hid rfl⟩
  have HR2 := HR
  rw [strP, Hx.out, Hy.out] at HR2
  rw [HR.out]
  go_enter Try.func78, Try.ntmps78
  go_wp2
  go_loopw [3] (fun i wr => ∃ n : Nat, i = .int .i64 (n : Int) ∧ n ≤ 2 ∧ Hid (1 < n ∨ n = 1 ∧ x = false ∨ n = 0 ∧ x = false ∧ y = false) ∧ Hid (Below w.heap.size w wr)) (fun i _ => (intOf i).toNat)
  case atStart => exact ⟨2, rfl, Nat.le_refl _, Lib.hid (.inl (by omega)), Lib.hid (Below.refl _ _)⟩
  case round =>
    obtain ⟨n, rfl, hn, HS, HB⟩ := hrel
    match n, hn with
    | 0, _ =>
      have Hr : Hid (x = false ∧ y = false) := Lib.hid (by have := HS.out; simpa using this)
      go_wp2
      go_ret
      exact ⟨ret_int (by rw [← HR2.out, Hr.out.1, Hr.out.2]; rfl), HB.out⟩
    | 1, _ =>
      have Hr : Hid (x = false) := Lib.hid (by have := HS.out; simpa using this)
      go_wp2_with fail
      refine (Hp.out.run _ HB.out 1).mono ?_
      rw [Hy.out]
      rintro e w1 ⟨rfl, hb⟩
      have HB1 := Lib.hid (bnext HB.out hb)
      clear hb
      cases y
      · go_wp2
        go_roundw
        case rel => exact ⟨0, by go_num, by omega, Lib.hid (by simp [Hr.out]), HB1⟩
        case measure => simp [intOf]
      · go_wp2
        go_ret
        exact ⟨ret_int (by rw [← HR2.out, Hr.out]; rfl), HB1.out⟩
    | 2, _ =>
      go_wp2_with fail
      refine (Hp.out.run _ HB.out 2).mono ?_
      rw [Hx.out]
      rintro e w1 ⟨rfl, hb⟩
      have HB1 := Lib.hid (bnext HB.out hb)
      clear hb
      cases x
      · go_wp2
        go_roundw
        case rel => exact ⟨1, by go_num, by omega, Lib.hid (by simp), HB1⟩
        case measure => simp [intOf]
      · go_wp2
        go_ret
        exact ⟨ret_int HR2.out, HB1.out⟩
set_option maxRecDepth 100000 in
theorem rest_run (b : Nat) (m : Int) (z : Int) (w : World) (h : w.cell? ⟨b, 0, none⟩ = some (.int .i64 m)) :
    Calls Try.prog 79 #[.int .i64 z, .pointer (some ⟨b, 0, none⟩)] w fun e w' => e = .returned (.bool (fitB z m)) ∧ Below w.heap.size w w' := by
  obtain ⟨x, Hx⟩ : ∃ x, Hid (fitB z m = x) := ⟨_, Lib.hid rfl⟩
  rw [Hx.out]
  go_enter Try.func79, Try.ntmps79
  go_wp2_with fail
  refine (Fit_any _ z m).mono ?_
  rw [Hx.out]
  rintro e w1 ⟨rfl, hb⟩
  have Hb := Lib.hid hb
  clear hb
  go_wp2
  go_ret
  exact ⟨rfl, Hb.out⟩
set_option maxRecDepth 100000 in
theorem Rest_any (w : World) (m : Int) : Calls Try.prog 72 #[.int .i64 m] w fun e w' => e = .returned (.int .i64 (restM m)) ∧ Below w.heap.size w w' := by
  have hr : restM m = strP (fun z => fitB z m) := rfl
  rw [hr]
  clear hr
  obtain ⟨x, Hx⟩ : ∃ x, Hid (strP (fun z => fitB z m) = x) := ⟨_, Lib.hid rfl⟩
  rw [Hx.out]
  go_enter Try.func72, Try.ntmps72
  go_wp2_with fail
  refine (strongest_one _ 79 _ (fun z => fitB z m) ⟨fun _ _ => rfl, fun u hu z => rest_run _ m z u ?_⟩).mono ?_
  · rw [hu.cell (by simp)]
    simp [go_sem]
  rw [Hx.out]
  rintro e w1 ⟨rfl, hb⟩
  have Hb := Lib.hid (bnext (balloc (Below.refl _ _) _) hb)
  clear hb
  go_wp2
  go_ret
  exact ⟨rfl, Hb.out⟩
def nameM (m : Int) : List UInt8 := if m = 0 then [110, 111, 110, 101] else if m = 1 then [115, 104, 97, 114, 101] else if m = 2 then [97, 108, 111, 110, 101] else []
end Go.Proofs.Ythpmodohfjjjcaa
