
/- A new directory that has its two dots, beside a file: what is refused there; plain facts and calls; no conditions but lengths. -/
import Derived.Test.YtkpcillgoeidaaaDirG
namespace Go.Proofs.Ytkpcillgoeidaaa
open Go.RowKit
set_option maxRecDepth 100000

def v1 : VwF := allocT f0 g0 2
def v2 : VwF := allocT f0 v1 1
def v3 : VwF := addT f0 v2 2 [46] 2
def v4 : VwF := addT f0 v3 2 [46, 46] 2
theorem va : allocV (allocA f0 v1) = .tuple #[.int .i64 2, .bool true] := by kernel_rfl
theorem vb : addOk f0 v2 2 [46] 2 = true := by decide +kernel
theorem vc_ : addOk f0 v3 2 [46, 46] 2 = true := by decide +kernel
theorem vd : (findV f0 v4 2).s.size = 32 := by decide +kernel
theorem vd1 : (findV f0 v4 1).s.size = 0 := by decide +kernel
theorem ve : isDirF f0 v4 2 = true := by decide +kernel
theorem ve1 : isDirF f0 v4 1 = false := by decide +kernel
theorem vf : foundE (dirE f0 v4 2) [120] = none := by decide +kernel
theorem vg : bareE (dirE f0 v4 2) = true := by decide +kernel
theorem find_new (j : Int) : findV f0 g0 j = zeroV := by
  have h : vgetF f0 g0 (10, j) = zeroV := by unfold vgetF; split <;> rfl
  unfold findV
  rw [h]
  split
  · split <;> rfl
  · rfl
theorem v4_off {j : Int} (h1 : j ≠ 1) (h2 : j ≠ 2) : findV f0 v4 j = zeroV := by
  have a1 : allocA f0 g0 = 1 := by decide +kernel
  have a2 : allocA f0 v1 = 2 := by decide +kernel
  show findV f0 (addT f0 (addT f0 v2 2 [46] 2) 2 [46, 46] 2) j = zeroV
  rw [add_other _ _ h2, add_other _ _ h2]
  show findV f0 (allocT f0 v1 1) j = zeroV
  rw [alloc_find (by decide) (by omega), a2, if_neg h2]
  show findV f0 (allocT f0 g0 2) j = zeroV
  rw [alloc_find (by decide) (by omega), a1, if_neg h1, find_new]
theorem v4_no {j : Int} (h : 3 ≤ j) : isDirF f0 v4 j = false := by
  unfold isDirF
  rw [v4_off (by omega) (by omega)]
  rfl

theorem add_same {f : StF} {g g' : VwF} {d : Int} (h : findV f g' d = findV f g d) (s : Bs) (i : Int) : addOk f g' d s i = addOk f g d s i := by
  unfold addOk isDirF
  rw [dirE_eq h, h]
theorem dir_same {f : StF} {g g' : VwF} {d : Int} (h : findV f g' d = findV f g d) : isDirF f g' d = isDirF f g d := by unfold isDirF; rw [h]

/-- All is as it was. -/
def RfF (g : VwF) : Prop := ∀ j, findV f0 g j = findV f0 v4 j
theorem RfF.find {g : VwF} (h : RfF g) (i : Int) : RfF (findT g i) := fun j => by rw [find_find]; exact h j
theorem found_bad {es : List E2} {s : Bs} (h : Nm.rightF s = false) : foundE es s = none := by
  unfold foundE
  rw [if_neg]
  intro x
  rw [h] at x
  exact absurd x.1 (by simp)
theorem found_nil (s : Bs) : foundE [] s = none := by unfold foundE; rw [if_neg (by simp)]

section
variable {w0 : World} {T p B q N : Nat} {g : VwF} {w : World}
theorem no_add (h : SideIn w0 T p B q N g w) (hr : RfF g) (d : Int) (s : ByteArray) (hs : s.size ≤ 1000000) (i : Int) (hno : addOk f0 v4 d (bl s) i = false) : Calls Try.prog 10 #[.pointer (some ⟨q, 0, none⟩), .int .i64 d, .string s, .int .i64 i] w
    fun e w' => e = .returned (.bool false) ∧ ∃ g', SideIn w0 T p B q N g' w' ∧ RfF g' := by
  refine (side_dadd h d s hs i).mono ?_
  rintro e w1 ⟨rfl, h1, -⟩
  have ha : addOk f0 g d (bl s) i = false := by rw [add_same (hr d)]; exact hno
  have hb : addT f0 g d (bl s) i = findT g d := by unfold addT; rw [ha, if_neg (by simp)]
  rw [hb] at h1
  exact ⟨by rw [ha], _, h1, hr.find d⟩
theorem no_rm (h : SideIn w0 T p B q N g w) (hr : RfF g) (d : Int) (s : ByteArray) (hs : s.size ≤ 1000000) (hno : foundE (dirE f0 v4 d) (bl s) = none) : Calls Try.prog 11 #[.pointer (some ⟨q, 0, none⟩), .int .i64 d, .string s] w
    fun e w' => e = .returned (.bool false) ∧ ∃ g', SideIn w0 T p B q N g' w' ∧ RfF g' := by
  refine (side_drm h d s hs).mono ?_
  rintro e w1 ⟨rfl, h1, -⟩
  have ha : foundE (dirE f0 g d) (bl s) = none := by rw [dirE_eq (hr d)]; exact hno
  have hb : rmT f0 g d (bl s) = findT g d := by unfold rmT; rw [ha, if_neg (by simp)]
  rw [hb] at h1
  exact ⟨by rw [ha]; rfl, _, h1, hr.find d⟩
theorem no_find (h : SideIn w0 T p B q N g w) (hr : RfF g) (d : Int) (s : ByteArray) (hs : s.size ≤ 1000000) (hno : foundE (dirE f0 v4 d) (bl s) = none) : Calls Try.prog 12 #[.pointer (some ⟨q, 0, none⟩), .int .i64 d, .string s] w
    fun e w' => e = .returned (.tuple #[.int .i64 0, .bool false]) ∧ ∃ g', SideIn w0 T p B q N g' w' ∧ RfF g' := by
  refine (side_dfind h d s hs).mono ?_
  rintro e w1 ⟨rfl, h1, -⟩
  exact ⟨by rw [dirE_eq (hr d), hno]; rfl, _, h1, hr.find d⟩
theorem the_bare (h : SideIn w0 T p B q N g w) (hr : RfF g) : Calls Try.prog 22 #[.pointer (some ⟨q, 0, none⟩), .int .i64 2] w
    fun e w' => e = .returned (.bool true) ∧ ∃ g', SideIn w0 T p B q N g' w' ∧ RfF g' := by
  refine (side_dbare h 2).mono ?_
  rintro e w1 ⟨rfl, h1, -⟩
  exact ⟨by rw [dirE_eq (hr 2), vg], _, h1, hr.find 2⟩
theorem the_size (h : SideIn w0 T p B q N g w) (hr : RfF g) (d : Int) : Calls Try.prog 26 #[.pointer (some ⟨q, 0, none⟩), .int .i64 d] w
    fun e w' => e = .returned (.int .i64 (findV f0 v4 d).s.size) ∧ ∃ g', SideIn w0 T p B q N g' w' ∧ RfF g' := by
  refine (side_size h d).mono ?_
  rintro e w1 ⟨rfl, h1, -⟩
  exact ⟨by rw [hr d], _, h1, hr.find d⟩
theorem the_is (h : SideIn w0 T p B q N g w) (hr : RfF g) (d : Int) : Calls Try.prog 19 #[.pointer (some ⟨q, 0, none⟩), .int .i64 d] w
    fun e w' => e = .returned (.bool (isDirF f0 v4 d)) ∧ ∃ g', SideIn w0 T p B q N g' w' ∧ RfF g' := by
  refine (side_dis h d).mono ?_
  rintro e w1 ⟨rfl, h1, -⟩
  exact ⟨by rw [dir_same (hr d)], _, h1, hr.find d⟩
end
end Go.Proofs.Ytkpcillgoeidaaa
