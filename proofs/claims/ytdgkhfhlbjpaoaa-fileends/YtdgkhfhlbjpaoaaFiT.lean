
/- Open files as plain functions of what a store and a view have; no conditions. -/
import Derived.Test.YtdgkhfhlbjpaoaaInB
import Derived.Test.YtdgkhfhlbjpaoaaPiT
namespace Go.Proofs.Ytdgkhfhlbjpaoaa
open Go.RowKit
set_option maxRecDepth 100000
set_option linter.unusedSimpArgs false

theorem plc_f5 : 0 ≤ plc (5, 0) := by decide
theorem plc_c11 : 0 ≤ plc (11, 0) := by decide
theorem plc_f6 {i : Int} (h : 0 ≤ i) (h' : i < 12) : 0 ≤ plc (6, i) := by
  have e1 : cnt 6 = 12 := by decide
  have e2 : ahd 6 = 12 := by decide
  show 0 ≤ (if i < 0 ∨ cnt 6 ≤ i then (-1 : Int) else ahd 6 + i)
  rw [e1, e2, if_neg (by omega)]; omega

theorem get_putX {f : StF} {g : VwF} {k : K2} {x : V} (h : 0 ≤ plc k) (j : K2) : vgetF f (vputT g k x) j = if j = k then x else vgetF f g j := by
  by_cases e : j = k
  · subst e; rw [if_pos rfl]; exact get_put h
  · rw [if_neg e]; exact get_put_other h e
theorem key_ne {a b : Int} (h : a ≠ b) (x y : Int) : ((a, x) : K2) ≠ (b, y) := fun e => h (by injection e)
theorem key_ne2 {x y : Int} (h : x ≠ y) (a b : Int) : ((a, x) : K2) ≠ (b, y) := fun e => h (by injection e)

/-- The table's numbers; file i's value; the console's. -/
abbrev ftV (f : StF) (g : VwF) : V := vgetF f g (5, 0)
abbrev filV (f : StF) (g : VwF) (i : Int) : V := vgetF f g (6, i)
abbrev conV (f : StF) (g : VwF) : V := vgetF f g (11, 0)
def isO (f : StF) (g : VwF) (i : Int) : Bool := decide (0 ≤ i ∧ i < 12) && hasB (ftV f g).n0 i
def isOT (g : VwF) (i : Int) : VwF := if 0 ≤ i ∧ i < 12 then vgetT g (5, 0) else g
/-- The view behind a look at file i. -/
def lkT (g : VwF) (i : Int) : VwF := vgetT (isOT g i) (6, i)

def freeF (n : Int) : Int := ((List.range 12).find? (fun j : Nat => !hasB n (j : Int))).elim 12 (fun j : Nat => (j : Int))
def newF (kind what mode : Int) : V := ⟨kind, 1, what, 0, mode, 0, 0, 0, 0, 0, 0, 0, 0, 0, 0, 0, ByteArray.empty⟩
def opnA (f : StF) (g : VwF) : Int := freeF (ftV f g).n0
def opnT (f : StF) (g : VwF) (kind what mode : Int) : VwF := if opnA f g < 12 then vputT (vputT (vgetT g (5, 0)) (5, 0) (withN (ftV f g) (orN (ftV f g).n0 (opnA f g)))) (6, opnA f g) (newF kind what mode) else vgetT g (5, 0)
def opnV (i : Int) : Value := .tuple #[.int .i64 (if i < 12 then i else 0), .bool (decide (i < 12))]

def dup1 (x : V) : V := { x with n1 := wrap64 (x.n1 + 1) }
def dupT (f : StF) (g : VwF) (i : Int) : VwF := if isO f g i = true then vputT (lkT g i) (6, i) (dup1 (filV f g i)) else isOT g i

def cls1 (x : V) : V := { x with n1 := wrap64 (x.n1 - 1) }
def shutT (f : StF) (g : VwF) (i : Int) : VwF := vputT (vgetT (vputT g (6, i) zeroV) (5, 0)) (5, 0) (withN (ftV f g) (clrN (ftV f g).n0 i))
def relT (f : StF) (g : VwF) (x : V) : VwF := if x.n0 = 1 then changeT f g x.n2 0 (-1) else if x.n0 = 2 then endT f g x.n2 false (-1) else if x.n0 = 3 then endT f g x.n2 true (-1) else g
def clsT (f : StF) (g : VwF) (i : Int) : VwF :=
  if isO f g i = true then (if 0 < (cls1 (filV f g i)).n1 then vputT (lkT g i) (6, i) (cls1 (filV f g i)) else relT f (shutT f (lkT g i) i) (cls1 (filV f g i))) else isOT g i

def adv (x : V) (n : Int) : V := { x with n3 := wrap64 (x.n3 + n) }
/-- What is read, how it ended, the view then. -/
structure RdO where
  s : ByteArray
  k : Int
  g : VwF
def coR (f : StF) (g : VwF) (n : Int) : RdO :=
  if 0 < n then (if (conV f g).s.size ≠ 0 then ⟨bs ((bl (conV f g).s).take n.toNat), 0, vputT (vgetT g (11, 0)) (11, 0) (withS (conV f g) (bs ((bl (conV f g).s).drop n.toNat)))⟩ else ⟨ByteArray.empty, 2, vgetT g (11, 0)⟩)
  else ⟨ByteArray.empty, 0, vgetT g (11, 0)⟩
def inoR (f : StF) (g : VwF) (i : Int) (x : V) (n : Int) : RdO :=
  if isI f g x.n2 = true then (if (findV f g x.n2).n0 = 3 then coR f (findT g x.n2) n
    else ⟨partF (findV f g x.n2).s x.n3 n, 0, vputT (findT g x.n2) (6, i) (adv x ((partF (findV f g x.n2).s x.n3 n).size : Nat))⟩) else ⟨ByteArray.empty, 1, findT g x.n2⟩
def frd (f : StF) (g : VwF) (i n : Int) : RdO :=
  if isO f g i = true ∧ 0 ≤ n then (if hasB (filV f g i).n4 0 = true then (
    if (filV f g i).n0 = 2 then ⟨prdS f (lkT g i) (filV f g i).n2 n, prdK f (lkT g i) (filV f g i).n2 n, prdT f (lkT g i) (filV f g i).n2 n⟩
    else if (filV f g i).n0 = 1 then inoR f (lkT g i) i (filV f g i) n else ⟨ByteArray.empty, 1, lkT g i⟩) else ⟨ByteArray.empty, 1, lkT g i⟩) else ⟨ByteArray.empty, 1, isOT g i⟩

/-- How much is written, how it ended, the view then. -/
structure WrO where
  a : Int
  k : Int
  g : VwF
def con1 (x : V) (b : UInt8) : V := { x with n0 := wrap64 (x.n0 + 1), n1 := wrap64 (wrap64 (31 * x.n1) + (b.toNat : Int)) }
def conW (x : V) (d : Bs) : V := d.foldl con1 x
def coT (f : StF) (g : VwF) (d : ByteArray) : VwF := vputT (vgetT g (11, 0)) (11, 0) (conW (conV f g) (bl d))
def inoW (f : StF) (g : VwF) (i : Int) (x : V) (d : ByteArray) : WrO :=
  if isI f g x.n2 = true then (if (findV f g x.n2).n0 = 3 then ⟨(d.size : Nat), 0, coT f (findT g x.n2) d⟩
    else if writeA f g x.n2 x.n3 d < 0 ∨ (writeA f g x.n2 x.n3 d = 0 ∧ d.size ≠ 0) then ⟨-1, 1, writeT f g x.n2 x.n3 d⟩
    else ⟨writeA f g x.n2 x.n3 d, 0, vputT (writeT f g x.n2 x.n3 d) (6, i) (adv x (writeA f g x.n2 x.n3 d))⟩) else ⟨-1, 1, findT g x.n2⟩
def fwr (f : StF) (g : VwF) (i : Int) (d : ByteArray) : WrO :=
  if isO f g i = true then (if hasB (filV f g i).n4 1 = true then (
    if (filV f g i).n0 = 3 then ⟨pwrA f (lkT g i) (filV f g i).n2 d, pwrK f (lkT g i) (filV f g i).n2 d, pwrT f (lkT g i) (filV f g i).n2 d⟩
    else if (filV f g i).n0 = 1 then inoW f (lkT g i) i (filV f g i) d else ⟨-1, 1, lkT g i⟩) else ⟨-1, 1, lkT g i⟩) else ⟨-1, 1, isOT g i⟩

/-- What Stat tells. -/
structure StO where
  t : Int
  i : Int
  l : Int
  z : Int
  b : Bool
  g : VwF
def fst (f : StF) (g : VwF) (i : Int) : StO :=
  if isO f g i = true then (if (filV f g i).n0 = 1 then (if isI f (lkT g i) (filV f g i).n2 = true then
      ⟨(findV f (lkT g i) (filV f g i).n2).n0, (filV f g i).n2, (findV f (lkT g i) (filV f g i).n2).n1, ((findV f (lkT g i) (filV f g i).n2).s.size : Nat), true, findT (lkT g i) (filV f g i).n2⟩
    else ⟨0, 0, 0, 0, false, findT (lkT g i) (filV f g i).n2⟩) else ⟨0, 0, 0, 0, false, lkT g i⟩) else ⟨0, 0, 0, 0, false, isOT g i⟩

theorem isO_range {f : StF} {g : VwF} {i : Int} (h : isO f g i = true) : 0 ≤ i ∧ i < 12 := by
  unfold isO at h; simp only [Bool.and_eq_true, decide_eq_true_eq] at h; exact h.1
theorem isO_out {f : StF} {g : VwF} {i : Int} (h : ¬ (0 ≤ i ∧ i < 12)) : isO f g i = false ∧ isOT g i = g := by
  unfold isO isOT; rw [if_neg h, decide_eq_false h]; exact ⟨rfl, rfl⟩
theorem isO_in {f : StF} {g : VwF} {i : Int} (h : 0 ≤ i ∧ i < 12) : isO f g i = hasB (ftV f g).n0 i ∧ isOT g i = vgetT g (5, 0) := by
  unfold isO isOT; rw [if_pos h, decide_eq_true h]; exact ⟨rfl, rfl⟩

theorem freeF_at {n i : Int} (h1 : 0 ≤ i) (h2 : i < 12) (ha : ∀ j, 0 ≤ j → j < i → hasB n j = true) (hi : hasB n i = false) : freeF n = i := by
  unfold freeF
  have : (List.range 12).find? (fun j : Nat => !hasB n (j : Int)) = some i.toNat := by
    rw [List.find?_range_eq_some]
    refine ⟨?_, by simp; omega, fun j hj => ?_⟩
    · rw [show ((i.toNat : Nat) : Int) = i by omega, hi]; rfl
    · rw [ha _ (by omega) (by omega)]; rfl
  rw [this]
  show ((i.toNat : Nat) : Int) = i
  omega
theorem freeF_none {n : Int} (ha : ∀ j, 0 ≤ j → j < 12 → hasB n j = true) : freeF n = 12 := by
  unfold freeF
  have : (List.range 12).find? (fun j : Nat => !hasB n (j : Int)) = none := by
    rw [List.find?_eq_none]
    intro j hj
    have : j < 12 := by simpa using hj
    rw [ha _ (by omega) (by omega)]; simp
  rw [this]; rfl
theorem freeF_pos (n : Int) : 0 ≤ freeF n := by
  unfold freeF
  cases (List.range 12).find? (fun j : Nat => !hasB n (j : Int)) with
  | none => show (0 : Int) ≤ 12; omega
  | some j => show (0 : Int) ≤ (j : Int); omega

section
variable {f : StF} {g : VwF}
theorem get_isOT (i : Int) (j : K2) : vgetF f (isOT g i) j = vgetF f g j := by unfold isOT; split; exact get_get; rfl
theorem get_lk (i : Int) (j : K2) : vgetF f (lkT g i) j = vgetF f g j := by unfold lkT; rw [get_get, get_isOT]
theorem get_findT (i : Int) (j : K2) : vgetF f (findT g i) j = vgetF f g j := by unfold findT; split; exact get_get; rfl
theorem get_isPT (i : Int) (j : K2) : vgetF f (isPT g i) j = vgetF f g j := by unfold isPT; split; exact get_get; rfl
theorem get_see (i : Int) (j : K2) : vgetF f (seeT g i) j = vgetF f g j := by unfold seeT; rw [get_get, get_isPT]
theorem isO_eq {g' : VwF} (h : vgetF f g' (5, 0) = vgetF f g (5, 0)) (i : Int) : isO f g' i = isO f g i := by unfold isO ftV; rw [h]

/-- What each call leaves elsewhere. -/
theorem change_off (i a b : Int) {j : K2} (h1 : j ≠ (10, i)) (h2 : j ≠ (9, 0)) : vgetF f (changeT f g i a b) j = vgetF f g j := by
  unfold changeT
  split
  · rename_i h
    obtain ⟨r1, r2⟩ := is_range h
    split
    · rw [get_put_other (plc_ik r1 r2) h1, get_findT]
    · unfold goneT
      rw [get_put_other plc_tk h2, get_get, get_put_other (plc_ik r1 r2) h1, get_findT]
  · exact get_findT _ _
theorem write_off (i off : Int) (d : ByteArray) {j : K2} (h1 : j ≠ (10, i)) : vgetF f (writeT f g i off d) j = vgetF f g j := by
  unfold writeT
  split
  · rename_i h
    obtain ⟨r1, r2⟩ := is_range (wr_is h).1
    rw [get_put_other (plc_ik r1 r2) h1, get_findT]
  · exact get_findT _ _
theorem allo_off (typ : Int) {j : K2} (h1 : j ≠ (10, allocA f g)) (h2 : j ≠ (9, 0)) : vgetF f (allocT f g typ) j = vgetF f g j := by
  have h0 : 1 ≤ allocA f g := freeN_pos _
  unfold allocT
  split
  · rename_i h
    rw [get_put_other (plc_ik h0 h) h1, get_put_other plc_tk h2, get_get]
  · exact get_get
theorem prd_off (q n : Int) {j : K2} (h1 : j ≠ (8, q)) : vgetF f (prdT f g q n) j = vgetF f g j := by
  unfold prdT
  split
  · rename_i h
    have hq : isP f g q = true := by unfold prdOk at h; simp only [Bool.and_eq_true] at h; exact h.1
    obtain ⟨r1, r2⟩ := isP_range hq
    split
    · rw [get_put_other (plc_p8 r1 r2) h1, get_see]
    · exact get_see _ _
  · exact get_isPT _ _
theorem pwr_off (q : Int) (d : ByteArray) {j : K2} (h1 : j ≠ (8, q)) : vgetF f (pwrT f g q d) j = vgetF f g j := by
  unfold pwrT
  split
  · rename_i h
    obtain ⟨r1, r2⟩ := isP_range h
    split
    · rw [get_put_other (plc_p8 r1 r2) h1, get_see]
    · exact get_see _ _
  · exact get_isPT _ _
theorem end_off (q : Int) (wr : Bool) (b : Int) {j : K2} (h1 : j ≠ (8, q)) (h2 : j ≠ (7, 0)) : vgetF f (endT f g q wr b) j = vgetF f g j := by
  unfold endT
  split
  · rename_i h
    obtain ⟨r1, r2⟩ := isP_range h
    split
    · rw [get_put_other (plc_p8 r1 r2) h1, get_see]
    · unfold lostT
      rw [get_put_other plc_t7 h2, get_get, get_put_other (plc_p8 r1 r2) h1, get_see]
  · exact get_isPT _ _
theorem pal_off {j : K2} (h1 : j ≠ (8, palA f g)) (h2 : j ≠ (7, 0)) : vgetF f (palT f g) j = vgetF f g j := by
  have h0 : 0 ≤ palA f g := freeP_pos _
  unfold palT
  split
  · rename_i h
    rw [get_put_other (plc_p8 h0 h) h1, get_put_other plc_t7 h2, get_get]
  · exact get_get

/-- What each call leaves. -/
theorem opn_get (kind what mode : Int) (h : opnA f g < 12) (j : K2) : vgetF f (opnT f g kind what mode) j =
    if j = (6, opnA f g) then newF kind what mode else if j = (5, 0) then withN (ftV f g) (orN (ftV f g).n0 (opnA f g)) else vgetF f g j := by
  have h0 : 0 ≤ opnA f g := freeF_pos _
  unfold opnT
  rw [if_pos h, get_putX (plc_f6 h0 h), get_putX plc_f5, get_get]
theorem opn_full (kind what mode : Int) (h : ¬ opnA f g < 12) : opnT f g kind what mode = vgetT g (5, 0) := by unfold opnT; rw [if_neg h]
theorem dup_get {i : Int} (h : isO f g i = true) (j : K2) : vgetF f (dupT f g i) j = if j = (6, i) then dup1 (filV f g i) else vgetF f g j := by
  obtain ⟨r1, r2⟩ := isO_range h
  unfold dupT
  rw [if_pos h, get_putX (plc_f6 r1 r2), get_lk]
theorem dup_no {i : Int} (h : isO f g i = false) : dupT f g i = isOT g i := by unfold dupT; rw [if_neg (by simp [h])]
theorem shut_get {i : Int} (r1 : 0 ≤ i) (r2 : i < 12) (j : K2) : vgetF f (shutT f g i) j = if j = (5, 0) then withN (ftV f g) (clrN (ftV f g).n0 i) else if j = (6, i) then zeroV else vgetF f g j := by
  unfold shutT
  rw [get_putX plc_f5, get_get, get_putX (plc_f6 r1 r2)]
theorem cls_stays {i : Int} (h : isO f g i = true) (hn : 0 < (cls1 (filV f g i)).n1) (j : K2) : vgetF f (clsT f g i) j = if j = (6, i) then cls1 (filV f g i) else vgetF f g j := by
  obtain ⟨r1, r2⟩ := isO_range h
  unfold clsT
  rw [if_pos h, if_pos hn, get_putX (plc_f6 r1 r2), get_lk]
theorem cls_goes {i : Int} (h : isO f g i = true) (hn : ¬ 0 < (cls1 (filV f g i)).n1) : clsT f g i = relT f (shutT f (lkT g i) i) (cls1 (filV f g i)) ∧
    ∀ j : K2, vgetF f (shutT f (lkT g i) i) j = if j = (5, 0) then withN (ftV f g) (clrN (ftV f g).n0 i) else if j = (6, i) then zeroV else vgetF f g j := by
  obtain ⟨r1, r2⟩ := isO_range h
  refine ⟨by unfold clsT; rw [if_pos h, if_neg hn], fun j => ?_⟩
  rw [shut_get r1 r2]
  unfold ftV
  rw [get_lk, get_lk]
theorem cls_no {i : Int} (h : isO f g i = false) : clsT f g i = isOT g i := by unfold clsT; rw [if_neg (by simp [h])]

theorem write_again (i off : Int) (d : ByteArray) : writeT f (findT g i) i off d = writeT f g i off d ∧ writeA f (findT g i) i off d = writeA f g i off d := by
  have e1 : findV f (findT g i) i = findV f g i := find_find f g i i
  have e2 : isI f (findT g i) i = isI f g i := is_eq e1
  unfold writeT writeA wrOk
  rw [e1, e2, find_again]
  exact ⟨rfl, rfl⟩
end

/-- Bits of numbers that are not below nought, by testBit. -/
theorem hasB_nat (n j : Nat) : hasB (n : Int) (j : Int) = n.testBit j := by
  unfold hasB
  rw [Nat.testBit_eq_decide_div_mod_eq, Int.toNat_natCast]
  congr 1
  rw [eq_iff_iff]
  constructor
  · intro h
    have : ((n / 2 ^ j % 2 : Nat) : Int) = 1 := by rw [Int.natCast_emod, Int.natCast_ediv, Int.natCast_pow]; exact h
    exact_mod_cast this
  · intro h
    have : ((n / 2 ^ j % 2 : Nat) : Int) = 1 := by rw [h]; rfl
    rw [Int.natCast_emod, Int.natCast_ediv, Int.natCast_pow] at this
    exact this
theorem pw_nat (i : Nat) : pw (i : Int) = ((2 ^ i : Nat) : Int) := by unfold pw; simp
theorem or_nat {n i : Nat} (hn : n < 65536) (hi : i < 16) : orN (n : Int) (i : Int) = ((n ||| 2 ^ i : Nat) : Int) ∧ n ||| 2 ^ i < 65536 := by
  have h1 : 2 ^ i < 2 ^ 16 := Nat.pow_lt_pow_right (by omega) hi
  have h3 : n ||| 2 ^ i < 2 ^ 16 := Nat.or_lt_two_pow hn h1
  refine ⟨?_, h3⟩
  unfold orN
  rw [pw_nat]
  show IntKind.i64.wrap (((BitVec.ofInt 64 (n : Int)) ||| (BitVec.ofInt 64 ((2 ^ i : Nat) : Int))).toNat : Int) = _
  rw [BitVec.ofInt_natCast, BitVec.ofInt_natCast, BitVec.toNat_or, BitVec.toNat_ofNat, BitVec.toNat_ofNat, Nat.mod_eq_of_lt (by omega : 2 ^ i < 2 ^ 64), Nat.mod_eq_of_lt (by omega : n < 2 ^ 64), IntKind.wrap_i64]
  generalize n ||| 2 ^ i = z at *
  omega
theorem clr_nat {n i : Nat} (hn : n < 65536) (hi : i < 16) : ∃ m : Nat, clrN (n : Int) (i : Int) = (m : Int) ∧ m < 65536 ∧ ∀ j, m.testBit j = (n.testBit j && decide (j ≠ i)) := by
  have h1 : 2 ^ i < 2 ^ 16 := Nat.pow_lt_pow_right (by omega) hi
  obtain ⟨m, hm⟩ : ∃ m : Nat, ((BitVec.ofInt 64 (n : Int)) &&& ~~~ (BitVec.ofInt 64 ((2 ^ i : Nat) : Int))).toNat = m := ⟨_, rfl⟩
  have ht : ∀ j, m.testBit j = (n.testBit j && decide (j ≠ i)) := by
    intro j
    rw [← hm, BitVec.testBit_toNat, BitVec.getLsbD_and, BitVec.getLsbD_not, BitVec.ofInt_natCast, BitVec.ofInt_natCast, BitVec.getLsbD_ofNat, BitVec.getLsbD_ofNat, Nat.testBit_two_pow]
    by_cases hj : j < 64
    · simp [hj, eq_comm]
    · have : n.testBit j = false := Nat.testBit_lt_two_pow (Nat.lt_of_lt_of_le hn (Nat.pow_le_pow_right (n := 2) (i := 16) (by omega) (by omega)))
      simp [hj, this]
  have hlt : m < 65536 := by
    refine Nat.lt_pow_two_of_testBit (n := 16) m (fun j hj => ?_)
    rw [ht, Nat.testBit_lt_two_pow (Nat.lt_of_lt_of_le hn (Nat.pow_le_pow_right (n := 2) (i := 16) (by omega) hj))]
    rfl
  refine ⟨m, ?_, hlt, ht⟩
  unfold clrN
  rw [pw_nat]
  show IntKind.i64.wrap (((BitVec.ofInt 64 (n : Int)) &&& ~~~ (BitVec.ofInt 64 ((2 ^ i : Nat) : Int))).toNat : Int) = _
  rw [hm, IntKind.wrap_i64]
  omega

section
variable {f : StF} {g : VwF}
theorem Small.isOT (h : Small f g) (i : Int) : Small f (isOT g i) := by unfold Go.Proofs.Ytdgkhfhlbjpaoaa.isOT; split; exact h.get _; exact h
theorem Small.lk (h : Small f g) (i : Int) : Small f (lkT g i) := (h.isOT i).get _
theorem Small.opn (h : Small f g) (kind what mode : Int) : Small f (opnT f g kind what mode) := by
  unfold opnT
  split
  · exact ((h.get _).put (5, 0) (x := withN (ftV f g) (orN (ftV f g).n0 (opnA f g))) (h.val (5, 0))).put (6, opnA f g) (x := newF kind what mode) (by show ByteArray.empty.size ≤ 200; decide)
  · exact h.get _
theorem Small.dup (h : Small f g) (i : Int) : Small f (dupT f g i) := by
  unfold dupT
  split
  · exact (h.lk i).put (6, i) (x := dup1 (filV f g i)) (h.val (6, i))
  · exact h.isOT i
theorem Small.rel (h : Small f g) (x : V) : Small f (relT f g x) := by
  unfold relT
  split
  · exact h.change _ _ _
  · split
    · exact h.ends _ _ _
    · split
      · exact h.ends _ _ _
      · exact h
theorem Small.shut (h : Small f g) (i : Int) : Small f (shutT f g i) := by
  unfold shutT
  exact ((h.put (6, i) zero_small).get _).put (5, 0) (x := withN (ftV f g) (clrN (ftV f g).n0 i)) (h.val (5, 0))
theorem Small.cls (h : Small f g) (i : Int) : Small f (clsT f g i) := by
  unfold clsT
  split
  · split
    · exact (h.lk i).put (6, i) (x := cls1 (filV f g i)) (h.val (6, i))
    · exact ((h.lk i).shut i).rel _
  · exact h.isOT i
theorem Small.coR (h : Small f g) (n : Int) : Small f (coR f g n).g := by
  unfold Go.Proofs.Ytdgkhfhlbjpaoaa.coR
  split
  · split
    · refine (h.get _).put (11, 0) (x := withS (conV f g) (bs ((bl (conV f g).s).drop n.toNat))) ?_
      show (bs _).size ≤ 200
      rw [bs_size, List.length_drop, bl_len]
      have := h.val (11, 0)
      unfold conV
      omega
    · exact (show Small f (vgetT g (11, 0)) from h.get _)
  · exact (show Small f (vgetT g (11, 0)) from h.get _)
theorem Small.inoR (h : Small f g) (i : Int) (x : V) (hx : x.s.size ≤ 200) (n : Int) : Small f (inoR f g i x n).g := by
  unfold Go.Proofs.Ytdgkhfhlbjpaoaa.inoR
  split
  · split
    · exact (h.find _).coR n
    · exact (h.find _).put (6, i) (x := adv x _) hx
  · exact h.find _
theorem Small.frd (h : Small f g) (i n : Int) : Small f (frd f g i n).g := by
  unfold Go.Proofs.Ytdgkhfhlbjpaoaa.frd
  split
  · split
    · split
      · exact (h.lk i).prd _ _
      · split
        · exact (h.lk i).inoR i _ (h.val (6, i)) n
        · exact h.lk i
    · exact h.lk i
  · exact h.isOT i
theorem con_s (x : V) (d : Bs) : (conW x d).s = x.s := by
  unfold conW
  induction d generalizing x with
  | nil => rfl
  | cons b d ih => show (d.foldl con1 (con1 x b)).s = x.s; rw [ih]; rfl
theorem Small.coT (h : Small f g) (d : ByteArray) : Small f (coT f g d) := by
  unfold Go.Proofs.Ytdgkhfhlbjpaoaa.coT
  refine (h.get _).put (11, 0) ?_
  rw [con_s]
  exact h.val (11, 0)
theorem Small.inoW (h : Small f g) (i : Int) (x : V) (hx : x.s.size ≤ 200) (d : ByteArray) : Small f (inoW f g i x d).g := by
  unfold Go.Proofs.Ytdgkhfhlbjpaoaa.inoW
  split
  · split
    · exact (h.find _).coT d
    · split
      · exact h.write _ _ d
      · exact (h.write _ _ d).put (6, i) (x := adv x _) hx
  · exact h.find _
theorem Small.fwr (h : Small f g) (i : Int) (d : ByteArray) : Small f (fwr f g i d).g := by
  unfold Go.Proofs.Ytdgkhfhlbjpaoaa.fwr
  split
  · split
    · split
      · exact (h.lk i).pwr _ d
      · split
        · exact (h.lk i).inoW i _ (h.val (6, i)) d
        · exact h.lk i
    · exact h.lk i
  · exact h.isOT i
theorem Small.fst (h : Small f g) (i : Int) : Small f (fst f g i).g := by
  unfold Go.Proofs.Ytdgkhfhlbjpaoaa.fst
  split
  · split
    · split
      · exact (h.lk i).find _
      · exact (h.lk i).find _
    · exact h.lk i
  · exact h.isOT i
end
end Go.Proofs.Ytdgkhfhlbjpaoaa
