
/- What stays as it was when something is done in one directory; no conditions. -/
import Derived.Test.YtkpcillgoeidaaaRuns
namespace Go.Proofs.Ytkpcillgoeidaaa
open Go.RowKit
set_option maxRecDepth 100000

theorem write_n0 {f : StF} {g : VwF} {i off : Int} (d : ByteArray) (j : Int) : (findV f (writeT f g i off d) j).n0 = (findV f g j).n0 := by
  by_cases h : wrOk f g i off = true
  · rw [write_find d h]
    split
    · rename_i e; subst e; rfl
    · rfl
  · have h : wrOk f g i off = false := by simpa using h
    rw [(write_no d h).1, find_find]
theorem add_other {f : StF} {g : VwF} {d : Int} (s : Bs) (i : Int) {j : Int} (h : j ≠ d) : findV f (addT f g d s i) j = findV f g j := by
  unfold addT
  split
  · rw [write_other _ h, find_find]
  · rw [find_find]
theorem add_n0 {f : StF} {g : VwF} {d : Int} (s : Bs) (i : Int) (j : Int) : (findV f (addT f g d s i) j).n0 = (findV f g j).n0 := by
  unfold addT
  split
  · rw [write_n0, find_find]
  · rw [find_find]
theorem rm_other {f : StF} {g : VwF} {d : Int} (s : Bs) {j : Int} (h : j ≠ d) : findV f (rmT f g d s) j = findV f g j := by
  unfold rmT
  split
  · rw [write_other _ h, find_find]
  · rw [find_find]
theorem rm_n0 {f : StF} {g : VwF} {d : Int} (s : Bs) (j : Int) : (findV f (rmT f g d s) j).n0 = (findV f g j).n0 := by
  unfold rmT
  split
  · rw [write_n0, find_find]
  · rw [find_find]
theorem dirE_eq {f f' : StF} {g g' : VwF} {d : Int} (h : findV f' g' d = findV f g d) : dirE f' g' d = dirE f g d := by unfold dirE isDirF; rw [h]

def u1 : VwF := allocT f0 g0 1
def u2 : VwF := allocT f0 u1 1
def keepB : Bs := [107, 101, 101, 112]
def u3 (i : Int) : VwF := addT f0 u2 1 keepB i
theorem u_a : allocV (allocA f0 u1) = .tuple #[.int .i64 2, .bool true] := by kernel_rfl
theorem u_all : ∀ k : Fin 15, addOk f0 u2 1 keepB ((k.val : Int) + 1) = true ∧ foundE (dirE f0 (u3 ((k.val : Int) + 1)) 1) keepB = some ((k.val : Int) + 1) ∧ namesE (dirE f0 (u3 ((k.val : Int) + 1)) 1) = [keepB] := by decide +kernel
theorem u_at {i : Int} (h1 : 1 ≤ i) (h2 : i < 16) : addOk f0 u2 1 keepB i = true ∧ foundE (dirE f0 (u3 i) 1) keepB = some i ∧ namesE (dirE f0 (u3 i) 1) = [keepB] := by
  have := u_all ⟨(i - 1).toNat, by omega⟩
  rw [show (((⟨(i - 1).toNat, by omega⟩ : Fin 15).val : Nat) : Int) + 1 = i by show ((i - 1).toNat : Int) + 1 = i; omega] at this
  exact this

structure ApF (i : Int) (g : VwF) : Prop where
  one : findV f0 g 1 = findV f0 (u3 i) 1
  two : (findV f0 g 2).n0 = 1
theorem u2_two : (findV f0 u2 2).n0 = 1 := by decide +kernel
theorem ap_new (i : Int) : ApF i (u3 i) := ⟨rfl, by unfold u3; rw [add_n0]; exact u2_two⟩
theorem ApF.find {i : Int} {g : VwF} (h : ApF i g) (j : Int) : ApF i (findT g j) := ⟨by rw [find_find]; exact h.one, by rw [find_find]; exact h.two⟩
theorem ApF.add {i : Int} {g : VwF} (h : ApF i g) (s : Bs) (n : Int) : ApF i (addT f0 g 2 s n) := ⟨by rw [add_other _ _ (by decide)]; exact h.one, by rw [add_n0]; exact h.two⟩
theorem ApF.rm {i : Int} {g : VwF} (h : ApF i g) (s : Bs) : ApF i (rmT f0 g 2 s) := ⟨by rw [rm_other _ (by decide)]; exact h.one, by rw [rm_n0]; exact h.two⟩
theorem ApF.dir {i : Int} {g : VwF} (h : ApF i g) : dirE f0 g 1 = dirE f0 (u3 i) 1 := dirE_eq h.one
end Go.Proofs.Ytkpcillgoeidaaa
