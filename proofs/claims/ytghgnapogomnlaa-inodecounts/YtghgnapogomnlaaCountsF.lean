/- What the statement on how many inodes there are keeps: plain facts; no conditions. -/
import Derived.Test.YtghgnapogomnlaaApartF
namespace Go.Proofs.Ytghgnapogomnlaa
open Go.RowKit

theorem full_tbl : (tblF f0 (aT 15)).n0 = 65534 := by decide +kernel
theorem again : ∀ k : Fin 15, freeN (clrN 65534 ((k.val : Int) + 1)) = (k.val : Int) + 1 := by decide +kernel
theorem again_at {i : Int} (h1 : 1 ≤ i) (h2 : i < 16) : freeN (clrN 65534 i) = i := by
  have := again ⟨(i - 1).toNat, by omega⟩
  simp only at this
  rw [show (((i - 1).toNat : Nat) : Int) + 1 = i by omega] at this
  exact this
theorem is_out {f : StF} {g : VwF} {i : Int} (h : ¬ (1 ≤ i ∧ i < 16)) : isI f g i = false := by unfold isI findV; rw [if_neg h]; rfl

def cV (a b : Int) : V := { numV 2 with n1 := a, n2 := b }
/-- Inode i has a links and b holders, all others are had. -/
def HadF (i : Int) (g : VwF) (a b : Int) : Prop := findV f0 g i = cV a b ∧ (tblF f0 g).n0 = 65534
/-- Inode i alone is gone. -/
def GoneF (i : Int) (g : VwF) : Prop := (tblF f0 g).n0 = clrN 65534 i

theorem had_new {i : Int} (h1 : 1 ≤ i) (h2 : i < 16) : HadF i (vgetT (aT 15) (9, 0)) 0 0 := by
  refine ⟨?_, by rw [tbl_getT]; exact full_tbl⟩
  rw [find_getT, aT_find (by omega), if_pos (by omega)]
  rfl
section
variable {i a b : Int} {g : VwF}
theorem HadF.is (h : HadF i g a b) : isI f0 g i = true := by unfold isI; rw [h.1]; rfl
theorem HadF.find (h : HadF i g a b) (j : Int) : HadF i (findT g j) a b := ⟨by rw [find_find]; exact h.1, by rw [tbl_find]; exact h.2⟩
theorem GoneF.find (h : GoneF i g) (j : Int) : GoneF i (findT g j) := by unfold GoneF; rw [tbl_find]; exact h
theorem wrap_small {x : Int} (h : -100 ≤ x) (h' : x ≤ 100) : wrap64 x = x := by unfold wrap64; omega
theorem HadF.change (h : HadF i g a b) {c d : Int} (ha : -50 ≤ a + c ∧ a + c ≤ 50) (hb : -50 ≤ b + d ∧ b + d ≤ 50) (hs : 0 < a + c ∨ 0 < b + d) : HadF i (changeT f0 g i c d) (a + c) (b + d) := by
  have e : chgV (findV f0 g i) c d = cV (a + c) (b + d) := by
    rw [h.1]
    unfold chgV cV
    simp only
    rw [wrap_small (by omega) (by omega), wrap_small (by omega) (by omega)]
  have hs' : 0 < (cV (a + c) (b + d)).n1 ∨ 0 < (cV (a + c) (b + d)).n2 := hs
  refine ⟨?_, ?_⟩
  · rw [change_find c d h.is, if_pos rfl, e, if_pos hs']
  · rw [change_tbl c d h.is, e, if_pos hs']; exact h.2
theorem HadF.gone (h : HadF i g a b) {c d : Int} (ha : -50 ≤ a + c ∧ a + c ≤ 50) (hb : -50 ≤ b + d ∧ b + d ≤ 50) (hs : ¬ (0 < a + c ∨ 0 < b + d)) : GoneF i (changeT f0 g i c d) := by
  have e : chgV (findV f0 g i) c d = cV (a + c) (b + d) := by
    rw [h.1]
    unfold chgV cV
    simp only
    rw [wrap_small (by omega) (by omega), wrap_small (by omega) (by omega)]
  have hs' : ¬ (0 < (cV (a + c) (b + d)).n1 ∨ 0 < (cV (a + c) (b + d)).n2) := hs
  unfold GoneF
  rw [change_tbl c d h.is, e, if_neg hs']
  show clrN (tblF f0 g).n0 i = _
  rw [h.2]
theorem GoneF.free (h : GoneF i g) (h1 : 1 ≤ i) (h2 : i < 16) : allocA f0 g = i := by rw [alloc_is, h, again_at h1 h2]
theorem GoneF.had (h : GoneF i g) (h1 : 1 ≤ i) (h2 : i < 16) : findV f0 (allocT f0 g 1) i = numV 1 := by
  rw [alloc_find (by decide) (by rw [h.free h1 h2]; exact h2), h.free h1 h2, if_pos rfl]
end
end Go.Proofs.Ytghgnapogomnlaa
