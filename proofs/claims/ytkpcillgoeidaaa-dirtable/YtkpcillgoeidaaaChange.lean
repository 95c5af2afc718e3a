
/- What Change does when it is called; no conditions. -/
import Derived.Test.YtkpcillgoeidaaaAlloc
namespace Go.Proofs.Ytkpcillgoeidaaa
open Go.RowKit
set_option maxRecDepth 100000
set_option linter.unusedSimpArgs false

def chgV (x : V) (a b : Int) : V := { x with n1 := wrap64 (x.n1 + a), n2 := wrap64 (x.n2 + b) }
/-- What is left when inode i goes. -/
def goneT (f : StF) (g : VwF) (i : Int) : VwF := vputT (vgetT (vputT g (10, i) zeroV) (9, 0)) (9, 0) (withN (vgetF f (vputT g (10, i) zeroV) (9, 0)) (clrN (vgetF f (vputT g (10, i) zeroV) (9, 0)).n0 i))
def changeT (f : StF) (g : VwF) (i a b : Int) : VwF :=
  if isI f g i = true then (if 0 < (chgV (findV f g i) a b).n1 ∨ 0 < (chgV (findV f g i) a b).n2 then vputT (findT g i) (10, i) (chgV (findV f g i) a b) else goneT f (findT g i) i) else findT g i

theorem is_range {f : StF} {g : VwF} {i : Int} (h : isI f g i = true) : 1 ≤ i ∧ i < 16 := by
  unfold isI findV at h
  split at h
  · assumption
  · simp [zeroV] at h

end Go.Proofs.Ytkpcillgoeidaaa
