/- PLAIN: what a cache knows, as a rising list of lines: sector, bytes, dirty. -/
import Derived.Test.YtocnpjmhkgnomaaGr10
import Derived.Test.YtocnpjmhkgnomaaMapI9
namespace Go.Proofs.Ytocnpjmhkgnomaa
open Go.RowKit

/-- A change: its sector, its bytes. -/
abbrev Ch := Int × List UInt8
def encC (c : Ch) : List Value := [.int .i64 c.1, .string (str c.2)]
theorem encC_ok : Enc 2 encC := ⟨fun _ => rfl, by intro a u hu; simp [encC] at hu; rcases hu with rfl | rfl <;> rfl, by decide⟩
/-- A line: a sector, its bytes, whether it is dirty. -/
abbrev Li := Int × List UInt8 × Bool
def encL (x : Li) : List Value := [.int .i64 x.1, .string (str x.2.1), .bool x.2.2]
theorem encL_ok : Enc 3 encL := ⟨fun _ => rfl, by intro a u hu; simp [encL] at hu; rcases hu with rfl | rfl | rfl <;> rfl, by decide⟩
def Rise (l : List Li) : Prop := l.Pairwise fun a b => a.1 < b.1
/-- What is known of a sector. -/
def look : List Li → Int → Option (List UInt8 × Bool)
  | [], _ => none
  | x :: l, k => if x.1 = k then some x.2 else look l k
/-- A line put in its place. -/
def setL : List Li → Li → List Li
  | [], x => [x]
  | a :: l, x => if a.1 < x.1 then a :: setL l x else if a.1 = x.1 then x :: l else x :: a :: l
def inR (a b k : Int) : Bool := decide (a ≤ k) && decide (k < b)
def dirtyL (l : List Li) (a b : Int) : List Ch := (l.filter fun x => inR a b x.1 && x.2.2).map fun x => (x.1, x.2.1)
def dropL (l : List Li) (a b : Int) : List Li := l.filter fun x => !inR a b x.1
def putL (l : List Li) (cs : List Ch) : List Li := cs.foldl (fun l c => setL l (c.1, c.2, true)) l
def isIt (l : List Li) (c : Ch) : Bool := decide (look l c.1 = some (c.2, true))
def clean1 (l : List Li) (c : Ch) : List Li := if isIt l c then setL l (c.1, c.2, false) else l
def cleanL (l : List Li) (cs : List Ch) : List Li := cs.foldl clean1 l
def cleanN : List Li → List Ch → Nat
  | _, [] => 0
  | l, c :: cs => (if isIt l c then 1 else 0) + cleanN (clean1 l c) cs
def loadL (l : List Li) (k : Int) (s : List UInt8) : List Li := if look l k = none then setL l (k, s, false) else l

theorem mem_setL {l : List Li} {x y : Li} (h : y ∈ setL l x) : y = x ∨ y ∈ l := by
  induction l with
  | nil => simp [setL] at h; exact .inl h
  | cons a l ih =>
    unfold setL at h
    split at h
    · rcases List.mem_cons.1 h with rfl | h
      · exact .inr (by simp)
      · rcases ih h with h | h
        · exact .inl h
        · exact .inr (by simp [h])
    · split at h
      · rcases List.mem_cons.1 h with rfl | h
        · exact .inl rfl
        · exact .inr (by simp [h])
      · rcases List.mem_cons.1 h with rfl | h
        · exact .inl rfl
        · exact .inr h
theorem Rise.set {l : List Li} (h : Rise l) (x : Li) : Rise (setL l x) := by
  induction l with
  | nil => exact List.pairwise_singleton _ _
  | cons a l ih =>
    obtain ⟨h1, h2⟩ := List.pairwise_cons.1 h
    unfold setL
    split
    · rename_i hlt
      refine List.pairwise_cons.2 ⟨fun y hy => ?_, ih h2⟩
      rcases mem_setL hy with rfl | hy
      · exact hlt
      · exact h1 y hy
    · split
      · rename_i he
        exact List.pairwise_cons.2 ⟨fun y hy => by have := h1 y hy; omega, h2⟩
      · exact List.pairwise_cons.2 ⟨fun y hy => by
          rcases List.mem_cons.1 hy with rfl | hy
          · omega
          · have := h1 y hy; omega, h⟩
theorem look_below {l : List Li} {k : Int} (h : ∀ y ∈ l, k < y.1) : look l k = none := by
  induction l with
  | nil => rfl
  | cons a l ih =>
    have := h a (by simp)
    rw [look, if_neg (by omega)]
    exact ih fun y hy => h y (by simp [hy])
theorem look_set {l : List Li} (h : Rise l) (x : Li) (k : Int) : look (setL l x) k = if k = x.1 then some x.2 else look l k := by
  induction l with
  | nil => by_cases e : k = x.1 <;> simp [setL, look, e, eq_comm]
  | cons a l ih =>
    obtain ⟨h1, h2⟩ := List.pairwise_cons.1 h
    unfold setL
    split
    · rename_i hlt
      rw [look, look, ih h2]
      by_cases e : a.1 = k
      · rw [if_pos e, if_neg (by omega), if_pos e]
      · rw [if_neg e, if_neg e]
    · split
      · rename_i he
        rw [look, look]
        by_cases e : x.1 = k
        · rw [if_pos e, if_pos e.symm]
        · rw [if_neg e, if_neg (fun h => e h.symm), if_neg (by omega)]
      · rw [look]
        by_cases e : x.1 = k
        · rw [if_pos e, if_pos e.symm]
        · rw [if_neg e, if_neg (fun h => e h.symm)]
theorem look_some {l : List Li} {k : Int} {v : List UInt8 × Bool} (h : look l k = some v) : (k, v) ∈ l := by
  induction l with
  | nil => cases h
  | cons a l ih =>
    rw [look] at h
    split at h
    · rename_i e
      injection h with h
      subst h e
      exact List.mem_cons_self
    · exact List.mem_cons_of_mem _ (ih h)
theorem look_mem {l : List Li} (h : Rise l) {x : Li} (hx : x ∈ l) : look l x.1 = some x.2 := by
  induction l with
  | nil => cases hx
  | cons a l ih =>
    obtain ⟨h1, h2⟩ := List.pairwise_cons.1 h
    rw [look]
    rcases List.mem_cons.1 hx with rfl | hx
    · rw [if_pos rfl]
    · have := h1 x hx
      rw [if_neg (by omega), ih h2 hx]
theorem setL_length_le (l : List Li) (x : Li) : (setL l x).length ≤ l.length + 1 := by
  induction l with
  | nil => simp [setL]
  | cons a l ih =>
    unfold setL
    split
    · simp; exact ih
    · split <;> simp
theorem setL_length {l : List Li} (h : Rise l) (x : Li) : (setL l x).length = if look l x.1 = none then l.length + 1 else l.length := by
  induction l with
  | nil => simp [setL, look]
  | cons a l ih =>
    obtain ⟨h1, h2⟩ := List.pairwise_cons.1 h
    unfold setL
    rw [look]
    split
    · rename_i hlt
      rw [List.length_cons, ih h2, if_neg (show ¬ a.1 = x.1 by omega)]
      split <;> simp
    · split
      · rename_i he
        simp
      · rename_i hn hne
        rw [look_below (fun y hy => by have := h1 y hy; omega)]
        simp
theorem Rise.filter {l : List Li} (h : Rise l) (p : Li → Bool) : Rise (l.filter p) := h.sublist List.filter_sublist
theorem look_filter {l : List Li} (h : Rise l) (p : Li → Bool) (k : Int) : look (l.filter p) k = (look l k).bind fun v => if p (k, v) then some v else none := by
  induction l with
  | nil => rfl
  | cons a l ih =>
    obtain ⟨h1, h2⟩ := List.pairwise_cons.1 h
    obtain ⟨a1, a2⟩ := a
    rw [List.filter_cons, look]
    by_cases e : a1 = k
    · subst e
      rw [if_pos rfl]
      by_cases hp : p (a1, a2) = true
      · rw [if_pos hp, look, if_pos rfl]; simp [hp]
      · rw [if_neg hp, look_below (fun y hy => h1 y (List.mem_filter.1 hy).1)]; simp [hp]
    · rw [if_neg e]
      by_cases hp : p (a1, a2) = true
      · rw [if_pos hp, look, if_neg e, ih h2]
      · rw [if_neg hp, ih h2]
theorem look_drop {l : List Li} (h : Rise l) (a b k : Int) : look (dropL l a b) k = if inR a b k then none else look l k := by
  rw [dropL, look_filter h]
  cases hr : inR a b k <;> cases look l k <;> simp [hr]
theorem Rise.drop {l : List Li} (h : Rise l) (a b : Int) : Rise (dropL l a b) := h.filter _
theorem Rise.put {l : List Li} (h : Rise l) (cs : List Ch) : Rise (putL l cs) := by
  induction cs generalizing l with
  | nil => exact h
  | cons c cs ih => exact ih (h.set _)
theorem Rise.clean1 {l : List Li} (h : Rise l) (c : Ch) : Rise (clean1 l c) := by
  unfold Go.Proofs.Ytocnpjmhkgnomaa.clean1
  split
  · exact h.set _
  · exact h
theorem Rise.clean {l : List Li} (h : Rise l) (cs : List Ch) : Rise (cleanL l cs) := by
  induction cs generalizing l with
  | nil => exact h
  | cons c cs ih => exact ih (h.clean1 c)
theorem Rise.load {l : List Li} (h : Rise l) (k : Int) (s : List UInt8) : Rise (loadL l k s) := by
  unfold loadL
  split
  · exact h.set _
  · exact h
theorem rise_nil : Rise [] := List.Pairwise.nil
theorem putL_length (l : List Li) (cs : List Ch) : (putL l cs).length ≤ l.length + cs.length := by
  induction cs generalizing l with
  | nil => simp [putL]
  | cons c cs ih =>
    have h1 := ih (setL l (c.1, c.2, true))
    have h2 := setL_length_le l (c.1, c.2, true)
    show (putL (setL l (c.1, c.2, true)) cs).length ≤ _
    simp
    omega
theorem clean1_length {l : List Li} (h : Rise l) (c : Ch) : (clean1 l c).length = l.length := by
  unfold clean1
  split
  · rename_i hi
    simp only [isIt, decide_eq_true_eq] at hi
    rw [setL_length h, hi]
    simp
  · rfl
theorem dropL_length (l : List Li) (a b : Int) : (dropL l a b).length ≤ l.length := List.length_filter_le _ _
theorem loadL_length (l : List Li) (k : Int) (s : List UInt8) : (loadL l k s).length ≤ l.length + 1 := by
  unfold loadL
  split
  · exact setL_length_le _ _
  · omega
/-- What a map holds of lines. -/
def kv (v : List UInt8 × Bool) : Value := .agg #[.string (str v.1), .bool v.2]
def mapL (l : List Li) (k : Int) : Option Value := (look l k).map kv
theorem mapL_set {l : List Li} (h : Rise l) (x : Li) : put (mapL l) x.1 (some (kv x.2)) = mapL (setL l x) := by
  funext k
  unfold put mapL
  rw [look_set h]
  split <;> rfl
theorem mapL_nil : mapL [] = fun _ => none := rfl
theorem putL_snoc (l : List Li) (t : List Ch) (c : Ch) : putL l (t ++ [c]) = setL (putL l t) (c.1, c.2, true) := by simp [putL]
theorem cleanL_snoc (l : List Li) (t : List Ch) (c : Ch) : cleanL l (t ++ [c]) = clean1 (cleanL l t) c := by simp [cleanL]
theorem cleanN_snoc (l : List Li) (t : List Ch) (c : Ch) : cleanN l (t ++ [c]) = cleanN l t + if isIt (cleanL l t) c then 1 else 0 := by
  induction t generalizing l with
  | nil => simp [cleanN, cleanL]; rfl
  | cons a t ih =>
    rw [List.cons_append, cleanN, ih, cleanN]
    show _ = _ + (if isIt (cleanL (clean1 l a) t) c = true then 1 else 0)
    omega
theorem cleanN_le (l : List Li) (cs : List Ch) : cleanN l cs ≤ cs.length := by
  induction cs generalizing l with
  | nil => simp [cleanN]
  | cons c cs ih =>
    have := ih (clean1 l c)
    rw [cleanN, List.length_cons]
    split <;> omega
theorem cleanL_length {l : List Li} (h : Rise l) (cs : List Ch) : (cleanL l cs).length = l.length := by
  induction cs generalizing l with
  | nil => rfl
  | cons c cs ih =>
    show (cleanL (clean1 l c) cs).length = _
    rw [ih (h.clean1 c), clean1_length h]
end Go.Proofs.Ytocnpjmhkgnomaa
