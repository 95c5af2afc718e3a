
/- Space as plain functions of what a store and a view have; no conditions. -/
import Derived.Test.YtbhpkjedkccdpaaDoorSpT
import Derived.Test.YtbhpkjedkccdpaaDoorPrT
namespace Go.Proofs.YtbhpkjedkccdpaaDoor
open Go.RowKit
set_option maxRecDepth 100000
set_option linter.unusedSimpArgs false

theorem plc_p2 : 0 ≤ plc (2, 0) := by decide

/-- The pool's numbers; process i's memory. -/
abbrev poV (f : StF) (g : VwF) : V := vgetF f g (2, 0)
abbrev meV (f : StF) (g : VwF) (i : Int) : V := vgetF f g (12, i)

/-- Behind the looks at a process and at its memory, at the pool. -/
def twoT (f : StF) (g : VwF) (i : Int) : VwF := vgetT (vgetT (stT f g i) (4, i)) (12, i)
def threeT (f : StF) (g : VwF) (i : Int) : VwF := vgetT (twoT f g i) (2, 0)

def bytesN (l : List Nat) : Bs := l.map UInt8.ofNat
def pagesN (s : ByteArray) : List Nat := (bl s).map fun b => b.toNat % 64
def spIn (f : StF) (g : VwF) (i n : Int) : Bool := isR f g i && decide (0 ≤ n)

def grMay (f : StF) (g : VwF) (i n : Int) : Bool := spIn f g i n && decide (n ≤ 6 - ((prV f g i).s.size : Int))
def grOk (f : StF) (g : VwF) (i n : Int) : Bool := grMay f g i n && decide (n ≤ (cntB (poV f g).n0 : Int))
def grP (y : V) (k : Nat) : V := withN y (clrAll y.n0 (picks y.n0 64 k))
def grX (x y : V) (k : Nat) : V := withS x (bs (bl x.s ++ bytesN (picks y.n0 64 k)))
def grM (m : V) (k : Nat) : V := withS m (bs (bl m.s ++ List.replicate (16 * k) 0))
def put3 (g : VwF) (i : Int) (y x m : V) : VwF := vputT (vputT (vputT g (2, 0) y) (4, i) x) (12, i) m
def grT (f : StF) (g : VwF) (i n : Int) : VwF :=
  if grOk f g i n = true then put3 (threeT f g i) i (grP (poV f g) n.toNat) (grX (prV f g i) (poV f g) n.toNat) (grM (meV f g i) n.toNat)
  else if grMay f g i n = true then threeT f g i else if spIn f g i n = true then twoT f g i else stT f g i

def shOk (f : StF) (g : VwF) (i n : Int) : Bool := spIn f g i n && decide (n ≤ ((prV f g i).s.size : Int))
def left (x : V) (n : Int) : Nat := x.s.size - n.toNat
def goneN (x : V) (n : Int) : List Nat := (pagesN x.s).drop (left x n)
def shP (y : V) (l : List Nat) : V := { y with n1 := orAll y.n1 l }
def shT (f : StF) (g : VwF) (i n : Int) : VwF :=
  if shOk f g i n = true then put3 (threeT f g i) i (shP (poV f g) (goneN (prV f g i) n)) (withS (prV f g i) (bs ((bl (prV f g i).s).take (left (prV f g i) n)))) (withS (meV f g i) (bs ((bl (meV f g i).s).take (left (prV f g i) n * 16))))
  else if spIn f g i n = true then twoT f g i else stT f g i
def shL (f : StF) (g : VwF) (i n : Int) : List Int := if shOk f g i n = true then (goneN (prV f g i) n).map (fun j : Nat => (j : Int)) else []

def backI (y : Int × Int) (l : List Int) : Int × Int := l.foldl backF y
def baV (y : V) (l : List Int) : V := { y with n0 := (backI (y.n0, y.n1) l).1, n1 := (backI (y.n0, y.n1) l).2 }
def baT (f : StF) (g : VwF) (l : List Int) : VwF := vputT (vgetT g (2, 0)) (2, 0) (baV (poV f g) l)

/-- What is asked alone: a process's pages; how many are free. -/
def pgL (f : StF) (g : VwF) (i : Int) : List Int := if isR f g i = true then (pagesN (prV f g i).s).map (fun j : Nat => (j : Int)) else []
def pgT (f : StF) (g : VwF) (i : Int) : VwF := if isR f g i = true then vgetT (stT f g i) (4, i) else stT f g i

theorem put_comm {g : VwF} {j k : K2} (h : j ≠ k) (x y : V) : vputT (vputT g j x) k y = vputT (vputT g k y) j x := by
  unfold vputT
  by_cases hj : 0 ≤ plc j <;> by_cases hk : 0 ≤ plc k
  · simp only [if_pos hj, if_pos hk]
    have e1 : noteF (upd g j ((noteF g j).1, true, x)) k = noteF g k := by unfold noteF upd; rw [if_neg (fun e => h e.symm)]
    have e2 : noteF (upd g k ((noteF g k).1, true, y)) j = noteF g j := by unfold noteF upd; rw [if_neg h]
    rw [e1, e2]
    funext t
    unfold upd
    by_cases c : t = j
    · subst c; rw [if_neg h, if_pos rfl, if_pos rfl]
    · by_cases d : t = k
      · subst d; rw [if_pos rfl, if_neg c, if_pos rfl]
      · rw [if_neg d, if_neg c, if_neg c, if_neg d]
  · simp only [if_pos hj, if_neg hk]
  · simp only [if_neg hj, if_pos hk]
  · simp only [if_neg hj, if_neg hk]

section
variable {f : StF} {g : VwF}
theorem get_two (i : Int) (j : K2) : vgetF f (twoT f g i) j = vgetF f g j := by unfold twoT; rw [get_get, get_get, get_stT]
theorem get_three (i : Int) (j : K2) : vgetF f (threeT f g i) j = vgetF f g j := by unfold threeT; rw [get_get, get_two]
theorem get_pgT (i : Int) (j : K2) : vgetF f (pgT f g i) j = vgetF f g j := by
  unfold pgT
  split
  · rw [get_get, get_stT]
  · exact get_stT _ _
theorem spIn_r {i n : Int} (h : spIn f g i n = true) : isR f g i = true ∧ 0 ≤ n := by unfold spIn at h; simpa using h
theorem grMay_in {i n : Int} (h : grMay f g i n = true) : spIn f g i n = true ∧ n ≤ 6 - ((prV f g i).s.size : Int) := by unfold grMay at h; simpa using h
theorem grOk_may {i n : Int} (h : grOk f g i n = true) : grMay f g i n = true ∧ n ≤ (cntB (poV f g).n0 : Int) := by unfold grOk at h; simpa using h
theorem shOk_in {i n : Int} (h : shOk f g i n = true) : spIn f g i n = true ∧ n ≤ ((prV f g i).s.size : Int) := by unfold shOk at h; simpa using h
theorem put3_get {i : Int} (r1 : 0 ≤ i) (r2 : i < 8) (y x m : V) (j : K2) : vgetF f (put3 g i y x m) j = if j = (12, i) then m else if j = (4, i) then x else if j = (2, 0) then y else vgetF f g j := by
  unfold put3
  rw [get_putX (plc_m12 r1 r2), get_putX (plc_r4 r1 r2), get_putX plc_p2]
theorem gr_get {i n : Int} (h : grOk f g i n = true) (j : K2) : vgetF f (grT f g i n) j =
    if j = (12, i) then grM (meV f g i) n.toNat else if j = (4, i) then grX (prV f g i) (poV f g) n.toNat else if j = (2, 0) then grP (poV f g) n.toNat else vgetF f g j := by
  obtain ⟨r1, r2⟩ := isR_range (spIn_r (grMay_in (grOk_may h).1).1).1
  unfold grT
  rw [if_pos h, put3_get r1 r2, get_three]
theorem gr_no {i n : Int} (h : grOk f g i n = false) (j : K2) : vgetF f (grT f g i n) j = vgetF f g j := by
  unfold grT
  rw [if_neg (by simp [h])]
  split
  · exact get_three _ _
  · split
    · exact get_two _ _
    · exact get_stT _ _
theorem sh_get {i n : Int} (h : shOk f g i n = true) (j : K2) : vgetF f (shT f g i n) j =
    if j = (12, i) then withS (meV f g i) (bs ((bl (meV f g i).s).take (left (prV f g i) n * 16))) else if j = (4, i) then withS (prV f g i) (bs ((bl (prV f g i).s).take (left (prV f g i) n)))
    else if j = (2, 0) then shP (poV f g) (goneN (prV f g i) n) else vgetF f g j := by
  obtain ⟨r1, r2⟩ := isR_range (spIn_r (shOk_in h).1).1
  unfold shT
  rw [if_pos h, put3_get r1 r2, get_three]
theorem sh_no {i n : Int} (h : shOk f g i n = false) (j : K2) : vgetF f (shT f g i n) j = vgetF f g j := by
  unfold shT
  rw [if_neg (by simp [h])]
  split
  · exact get_two _ _
  · exact get_stT _ _
theorem ba_get (l : List Int) (j : K2) : vgetF f (baT f g l) j = if j = (2, 0) then baV (poV f g) l else vgetF f g j := by
  unfold baT
  rw [get_putX plc_p2, get_get]
end
end Go.Proofs.YtbhpkjedkccdpaaDoor
