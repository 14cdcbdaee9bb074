/- PLAIN: heads, lines, rows of changes and records of a journal, and what is found. -/
import Derived.Test.YtgncmgchoogmpaaDoorGr10
import Derived.Test.YtgncmgchoogmpaaDoorRef11a
namespace Go.Proofs.YtgncmgchoogmpaaDoor
open Go.RowKit

/-- A change: its sector, its bytes. -/
abbrev Ch := Int × List UInt8
def encC (c : Ch) : List Value := [.int .i64 c.1, .string (str c.2)]
theorem encC_ok : Enc 2 encC := ⟨fun _ => rfl, by intro a u hu; simp [encC] at hu; rcases hu with rfl | rfl <;> rfl, by decide⟩
def encS (s : List UInt8) : List Value := [.string (str s)]
theorem encS_ok : Enc 1 encS := ⟨fun _ => rfl, by intro a u hu; simp [encS] at hu; subst hu; rfl, by decide⟩

/-! ### sectors of lines -/
theorem fillS_inj {a b : List UInt8} (ha : a.length ≤ 510) (hb : b.length ≤ 510) (h : fillS a = fillS b) : a = b := by
  have h1 := fill_num ha
  have h2 := fill_num hb
  have h3 := fill_rest ha
  have h4 := fill_rest hb
  rw [h] at h1 h3
  rw [h1] at h2
  rw [h2] at h3
  exact h3.symm.trans h4
theorem be_inj {k n m : Nat} (hn : n < 256 ^ k) (hm : m < 256 ^ k) (h : be k n = be k m) : n = m := by
  have h1 := congrArg num h
  rw [num_be, num_be, Nat.mod_eq_of_lt hn, Nat.mod_eq_of_lt hm] at h1
  exact h1
theorem openS_fill {t : List UInt8} (h : t.length ≤ 510) : openOk (fillS t) = true ∧ openS (fillS t) = t := by
  have e := rtextS_fill h
  have h1 : openOk (fillS t) = true := by rw [openOk, e]; simp [fillE_zero.2 h]
  exact ⟨h1, by rw [openS, if_pos h1, e]⟩
theorem xopenS_fill {t : List UInt8} (h : t.length ≤ 510) : xopenOk (fillS t) = true ∧ xopenS (fillS t) = t := by
  have e1 := fill_num h
  have e2 := fill_rest h
  have e3 := fillS_length h
  have h1 : xopenOk (fillS t) = true := by rw [xopenOk, xopenN, e1, e2]; simp [e3, h]
  exact ⟨h1, by rw [xopenS, if_pos h1, xopenN, e1, e2]⟩
theorem xopen_is {s : List UInt8} (h : xopenOk s = true) : fillS (xopenS s) = s ∧ (xopenS s).length ≤ 510 ∧ s.length = 512 := by
  have hx := h
  simp only [xopenOk, Bool.and_eq_true, decide_eq_true_eq, beq_iff_eq] at h
  refine ⟨by rw [xopenS, if_pos hx]; exact h.2, ?_, h.1.1⟩
  rw [xopenS, if_pos hx]
  simp
  omega

def signH : List UInt8 := [76, 71, 72, 49]
def signD : List UInt8 := [76, 71, 68, 49]
def signC : List UInt8 := [76, 71, 67, 49]
/-- A head. -/
def lineH (d : Nat) : List UInt8 := signH ++ be 8 d
def headS (d : Nat) : List UInt8 := fillS (lineH d)
def clampD (d : Int) : Nat := (min (max d 0) 1099511627776).toNat
theorem clampD_le (d : Int) : clampD d ≤ 1099511627776 := by unfold clampD; omega
theorem clampD_of (d : Nat) (h : d ≤ 1099511627776) : clampD (d : Int) = d := by unfold clampD; omega
theorem lineH_length (d : Nat) : (lineH d).length = 12 := by simp [lineH, signH, be_length]
theorem headS_length (d : Nat) : (headS d).length = 512 := fillS_length (by rw [lineH_length]; omega)
theorem headS_inj {a b : Nat} (ha : a ≤ 1099511627776) (hb : b ≤ 1099511627776) (h : headS a = headS b) : a = b := by
  have h1 := fillS_inj (by rw [lineH_length]; omega) (by rw [lineH_length]; omega) h
  exact be_inj (k := 8) (by omega) (by omega) (List.append_cancel_left h1)
/-- Is it a head, and of what? -/
def DoneR (s : List UInt8) (d : Nat) (ok : Bool) : Prop := (ok = true ∧ d ≤ 1099511627776 ∧ s = headS d) ∨ (ok = false ∧ d = 0 ∧ ∀ x, x ≤ 1099511627776 → s ≠ headS x)
theorem DoneR.eq {s : List UInt8} {d e : Nat} {a b : Bool} (h : DoneR s d a) (k : DoneR s e b) : d = e ∧ a = b := by
  rcases h with ⟨rfl, hd, hs⟩ | ⟨rfl, rfl, hn⟩ <;> rcases k with ⟨rfl, ke, ks⟩ | ⟨rfl, rfl, kn⟩
  · exact ⟨headS_inj hd ke (hs.symm.trans ks), rfl⟩
  · exact absurd hs (kn _ hd)
  · exact absurd ks (hn _ ke)
  · exact ⟨rfl, rfl⟩
/-- What the program reads of a sector's done. -/
def readD (s : List UInt8) : Nat := eightV (takeL (openS s) 4) 1099511627776
theorem eightV_le (l : List UInt8) : eightV l 1099511627776 ≤ 1099511627776 := by
  unfold eightV
  split
  · rename_i h
    simp only [eightOk, Bool.and_eq_true, decide_eq_true_eq] at h
    omega
  · omega
theorem sign_take (s t : List UInt8) (h : s.length = 4) : takeL (s ++ t) 4 = t := by
  rw [takeL, if_pos (by simp; omega), List.drop_left' h]
theorem eight_nil (n : Nat) (most : Int) (hn : (n : Int) ≤ most) (h8 : n < 18446744073709551616) : eightV (be 8 n) most = n ∧ eightL (be 8 n) most = [] ∧ ∀ br, eightB (be 8 n) br most = br := by
  have := eight_put n [] most hn h8
  rwa [List.append_nil] at this
theorem readD_head {d : Nat} (h : d ≤ 1099511627776) : readD (headS d) = d := by
  rw [readD, headS, (openS_fill (by rw [lineH_length]; omega)).2, lineH, sign_take _ _ rfl, (eight_nil d _ (by omega) (by omega)).1]
theorem done_prog (s : List UInt8) : DoneR s (if headS (readD s) == s then readD s else 0) (headS (readD s) == s) := by
  cases h : headS (readD s) == s
  · refine .inr ⟨rfl, rfl, ?_⟩
    intro x hx e
    subst e
    rw [readD_head hx, beq_self_eq_true] at h
    cases h
  · rw [if_pos rfl]
    exact .inl ⟨rfl, eightV_le _, (eq_of_beq h).symm⟩
/-- What the document's answer reads. -/
def xdoneOk (s : List UInt8) : Bool := xopenOk s && decide ((xopenS s).length = 12) && decide (endE (eightL ((xopenS s).drop 4) 1099511627776) (eightB ((xopenS s).drop 4) false 1099511627776) = 0) && (headS (eightV ((xopenS s).drop 4) 1099511627776) == s)
def xdoneV (s : List UInt8) : Nat := if xdoneOk s then eightV ((xopenS s).drop 4) 1099511627776 else 0
theorem done_doc (s : List UInt8) : DoneR s (xdoneV s) (xdoneOk s) := by
  cases h : xdoneOk s
  · refine .inr ⟨rfl, by rw [xdoneV, h]; rfl, ?_⟩
    rintro x hx rfl
    obtain ⟨e1, e2⟩ := xopenS_fill (t := lineH x) (by rw [lineH_length]; omega)
    have e3 : (lineH x).drop 4 = be 8 x := by rw [lineH, List.drop_left' (show signH.length = 4 from rfl)]
    obtain ⟨f1, f2, f3⟩ := eight_nil x 1099511627776 (by omega) (by omega)
    have : xdoneOk (headS x) = true := by
      rw [xdoneOk, headS, e1, e2, e3, f1, f2, f3, lineH_length]
      simp [endE, headS]
    rw [this] at h
    cases h
  · have h' := h
    simp only [xdoneOk, Bool.and_eq_true, decide_eq_true_eq, beq_iff_eq] at h
    exact .inl ⟨rfl, by rw [xdoneV, if_pos h']; exact eightV_le _, by rw [xdoneV, if_pos h']; exact h.2.symm⟩

/-! ### rows, lines, records -/
def rowFrom : Int → List Ch → Bool
  | _, [] => true
  | a, c :: l => decide (a < c.1) && (decide (c.1 < 65536) && (decide (c.2.length = 512) && rowFrom c.1 l))
/-- Is it a row of changes? -/
def rowB (l : List Ch) : Bool := rowFrom (-1) l
theorem rowFrom_of {l : List Ch} : ∀ {a : Int}, rowFrom a l = true → ∀ c ∈ l, a < c.1 ∧ c.1 < 65536 ∧ c.2.length = 512 := by
  induction l with
  | nil => intro a _ c hc; simp at hc
  | cons x l ih =>
    intro a h c hc
    simp only [rowFrom, Bool.and_eq_true, decide_eq_true_eq] at h
    obtain ⟨h1, h2, h3, h4⟩ := h
    rcases List.mem_cons.1 hc with rfl | hc
    · exact ⟨h1, h2, h3⟩
    · have := ih h4 c hc
      exact ⟨by omega, this.2⟩
theorem rowB_of {l : List Ch} (h : rowB l = true) : ∀ c ∈ l, 0 ≤ c.1 ∧ c.1 < 65536 ∧ c.2.length = 512 := fun c hc => by
  have := rowFrom_of h c hc
  exact ⟨by omega, this.2⟩
def sects (l : List Ch) : List UInt8 := l.flatMap fun c => be 4 c.1.toNat
theorem sects_nil : sects [] = [] := rfl
theorem sects_cons (c : Ch) (l : List Ch) : sects (c :: l) = be 4 c.1.toNat ++ sects l := by simp [sects]
theorem sects_snoc (l : List Ch) (c : Ch) : sects (l ++ [c]) = sects l ++ be 4 c.1.toNat := by simp [sects]
theorem sects_length : ∀ l : List Ch, (sects l).length = 4 * l.length
  | [] => rfl
  | c :: l => by rw [sects_cons, List.length_append, be_length, sects_length l, List.length_cons]; omega
def lineD (seq : Nat) (l : List Ch) : List UInt8 := signD ++ (be 8 seq ++ (be 2 l.length ++ sects l))
theorem lineD_length (seq : Nat) (l : List Ch) : (lineD seq l).length = 14 + 4 * l.length := by simp [lineD, signD, be_length, sects_length]; omega
def firstS (seq : Nat) (l : List Ch) : List UInt8 := fillS (lineD seq l)
def textsS (seq : Nat) (l : List Ch) : List (List UInt8) := firstS seq l :: l.map Prod.snd
def lineC (seq : Nat) (l : List Ch) : List UInt8 := signC ++ (be 8 seq ++ (be 2 l.length ++ be 4 (rows 0#32 (textsS seq l)).toNat))
theorem lineC_length (seq : Nat) (l : List Ch) : (lineC seq l).length = 18 := by simp [lineC, signC, be_length]
def markS (seq : Nat) (l : List Ch) : List UInt8 := fillS (lineC seq l)
theorem markS_length (seq : Nat) (l : List Ch) : (markS seq l).length = 512 := fillS_length (by rw [lineC_length]; omega)
theorem firstS_length (seq : Nat) (l : List Ch) (h : l.length ≤ 60) : (firstS seq l).length = 512 := fillS_length (by rw [lineD_length]; omega)
def roomI (size : Int) : Int := min (max size 3) 63 - 3
def numbered : Int → List (List UInt8) → List Ch
  | _, [] => []
  | k, s :: ss => (k, s) :: numbered (k + 1) ss
theorem numbered_length : ∀ (ss : List (List UInt8)) (k : Int), (numbered k ss).length = ss.length
  | [], _ => rfl
  | _ :: ss, k => by simp [numbered, numbered_length ss]
theorem numbered_get : ∀ (ss : List (List UInt8)) (k : Int) (i : Nat) (s : List UInt8), ss[i]? = some s → (numbered k ss)[i]? = some (k + i, s)
  | [], _, _, _, h => by simp at h
  | x :: ss, k, 0, s, h => by simp at h; subst h; simp [numbered]
  | x :: ss, k, i + 1, s, h => by
    have := numbered_get ss (k + 1) i s (by simpa using h)
    simp only [numbered, List.getElem?_cons_succ, this]
    rw [show k + 1 + (i : Int) = k + ((i + 1 : Nat) : Int) by omega]
theorem numbered_snoc : ∀ (ss : List (List UInt8)) (k : Int) (s : List UInt8), numbered k (ss ++ [s]) = numbered k ss ++ [(k + ss.length, s)]
  | [], k, s => by simp [numbered]
  | x :: ss, k, s => by
    have := numbered_snoc ss (k + 1) s
    simp only [List.cons_append, numbered, this, List.length_cons]
    rw [show k + 1 + (ss.length : Int) = k + ((ss.length + 1 : Nat) : Int) by omega]
/-- What Record answers. -/
def recE (size seq : Int) (l : List Ch) : Int := if seq < 1 ∨ 1099511627776 < seq ∨ l = [] ∨ rowB l = false then 1 else if roomI size < l.length then 15 else 0
def recL (size seq : Int) (l : List Ch) : List Ch := if recE size seq l = 0 then numbered 1 (textsS seq.toNat l) else []
def recM (size seq : Int) (l : List Ch) : Ch := if recE size seq l = 0 then (size - 1, markS seq.toNat l) else (0, [])
theorem recE_ok {size seq : Int} {l : List Ch} (h : recE size seq l = 0) : 1 ≤ seq ∧ seq ≤ 1099511627776 ∧ l ≠ [] ∧ rowB l = true ∧ (l.length : Int) ≤ roomI size := by
  unfold recE at h
  split at h
  · cases h
  · rename_i h1
    split at h
    · cases h
    · rename_i h2
      simp only [not_or, Bool.not_eq_false] at h1
      exact ⟨by omega, by omega, h1.2.2.1, h1.2.2.2, by omega⟩
theorem recE_of {size seq : Int} {l : List Ch} (h1 : 1 ≤ seq) (h2 : seq ≤ 1099511627776) (h3 : l ≠ []) (h4 : rowB l = true) (h5 : (l.length : Int) ≤ roomI size) : recE size seq l = 0 := by
  unfold recE
  rw [if_neg, if_neg (by omega)]
  simp only [not_or, Bool.not_eq_false]
  exact ⟨by omega, by omega, h3, h4⟩
theorem roomI_le (size : Int) : roomI size ≤ 60 := by unfold roomI; omega

/-! ### what is found -/
structure IsRec (rg : List (List UInt8)) (d seq : Nat) (l : List Ch) : Prop where
  room : l.length + 3 ≤ rg.length
  n1 : 1 ≤ l.length
  n60 : l.length ≤ 60
  dle : d ≤ 1099511627776
  head : rg.getD 0 [] = headS d
  first : rg.getD 1 [] = firstS seq l
  body : ∀ i c, l[i]? = some c → rg.getD (2 + i) [] = c.2
  row : rowB l = true
  seq1 : 1 ≤ seq
  seqm : seq ≤ 1099511627776
  above : d < seq
  mark : rg.getD (rg.length - 1) [] = markS seq l
theorem sects_inj : ∀ {l m : List Ch}, (∀ c ∈ l, 0 ≤ c.1 ∧ c.1 < 65536) → (∀ c ∈ m, 0 ≤ c.1 ∧ c.1 < 65536) → l.length = m.length → sects l = sects m → l.map Prod.fst = m.map Prod.fst
  | [], [], _, _, _, _ => rfl
  | [], _ :: _, _, _, h, _ => by simp at h
  | _ :: _, [], _, _, h, _ => by simp at h
  | c :: l, d :: m, h1, h2, h3, h => by
    rw [sects_cons, sects_cons] at h
    obtain ⟨a, b⟩ := List.append_inj h (by rw [be_length, be_length])
    have hc := h1 c (by simp)
    have hd := h2 d (by simp)
    have e := be_inj (k := 4) (by omega) (by omega) a
    have ih := sects_inj (fun x hx => h1 x (by simp [hx])) (fun x hx => h2 x (by simp [hx])) (by simpa using h3) b
    simp only [List.map_cons, ih]
    congr 1
    omega
theorem lineD_inj {s t : Nat} {l m : List Ch} (hs : s ≤ 1099511627776) (ht : t ≤ 1099511627776) (hl : l.length ≤ 60) (hm : m.length ≤ 60) (h1 : ∀ c ∈ l, 0 ≤ c.1 ∧ c.1 < 65536) (h2 : ∀ c ∈ m, 0 ≤ c.1 ∧ c.1 < 65536)
    (h : firstS s l = firstS t m) : s = t ∧ l.length = m.length ∧ l.map Prod.fst = m.map Prod.fst := by
  have h := fillS_inj (by rw [lineD_length]; omega) (by rw [lineD_length]; omega) h
  have h := List.append_cancel_left h
  obtain ⟨a, h⟩ := List.append_inj h (by rw [be_length, be_length])
  obtain ⟨b, h⟩ := List.append_inj h (by rw [be_length, be_length])
  have e := be_inj (k := 2) (by omega) (by omega) b
  exact ⟨be_inj (k := 8) (by omega) (by omega) a, e, sects_inj h1 h2 e h⟩
theorem pairs_eq : ∀ {l m : List Ch}, l.map Prod.fst = m.map Prod.fst → l.map Prod.snd = m.map Prod.snd → l = m
  | [], [], _, _ => rfl
  | [], _ :: _, h, _ => by simp at h
  | _ :: _, [], h, _ => by simp at h
  | (a, b) :: l, (c, d) :: m, h, k => by
    simp only [List.map_cons, List.cons.injEq] at h k
    rw [h.1, k.1, pairs_eq h.2 k.2]
theorem IsRec.eq {rg : List (List UInt8)} {d s e t : Nat} {l m : List Ch} (h : IsRec rg d s l) (k : IsRec rg e t m) : d = e ∧ s = t ∧ l = m := by
  have hd := headS_inj h.dle k.dle (h.head.symm.trans k.head)
  obtain ⟨e1, e2, e3⟩ := lineD_inj h.seqm k.seqm h.n60 k.n60 (fun c hc => ⟨(rowB_of h.row c hc).1, (rowB_of h.row c hc).2.1⟩) (fun c hc => ⟨(rowB_of k.row c hc).1, (rowB_of k.row c hc).2.1⟩) (h.first.symm.trans k.first)
  refine ⟨hd, e1, pairs_eq e3 ?_⟩
  apply List.ext_getElem?
  intro i
  rw [List.getElem?_map, List.getElem?_map]
  by_cases hi : i < l.length
  · have hi' : i < m.length := by omega
    rw [List.getElem?_eq_getElem hi, List.getElem?_eq_getElem hi']
    simp only [Option.map_some, Option.some.injEq]
    rw [← h.body i _ (List.getElem?_eq_getElem hi), ← k.body i _ (List.getElem?_eq_getElem hi')]
  · rw [List.getElem?_eq_none (by omega), List.getElem?_eq_none (by omega)]
def ScanR (rg : List (List UInt8)) (s : Nat) (l : List Ch) (b : Bool) : Prop := (b = true ∧ ∃ d, IsRec rg d s l) ∨ (b = false ∧ s = 0 ∧ l = [] ∧ ∀ d t m, ¬ IsRec rg d t m)
theorem ScanR.eq {rg : List (List UInt8)} {s t : Nat} {l m : List Ch} {a b : Bool} (h : ScanR rg s l a) (k : ScanR rg t m b) : s = t ∧ l = m ∧ a = b := by
  rcases h with ⟨rfl, d, h⟩ | ⟨rfl, rfl, rfl, h⟩ <;> rcases k with ⟨rfl, e, k⟩ | ⟨rfl, rfl, rfl, k⟩
  · obtain ⟨_, e1, e2⟩ := h.eq k
    exact ⟨e1, e2, rfl⟩
  · exact absurd h (k _ _ _)
  · exact absurd k (h _ _ _)
  · exact ⟨rfl, rfl, rfl⟩
end Go.Proofs.YtgncmgchoogmpaaDoor
