/- What the statement on a file's bytes keeps: plain facts; no conditions. -/
import Derived.Test.YtghgnapogomnlaaApartF
import Derived.Test.YtghgnapogomnlaaRRw
namespace Go.Proofs.Ytghgnapogomnlaa
open Go.RowKit

def other : ByteArray := ⟨#[111, 116, 104, 101, 114]⟩
def b3 : VwF := writeT f0 (aT 2) 2 0 other
theorem other_list : other.toList = [111, 116, 104, 101, 114] := by decide +kernel
theorem b3_ans : writeA f0 (aT 2) 2 0 other = 5 := by decide +kernel
theorem other_read : partF (withS (numV 2) other).s 0 99 = other := by decide +kernel
theorem b3_one : findV f0 b3 1 = withS (numV 2) ByteArray.empty := by kernel_rfl
theorem b3_two : findV f0 b3 2 = withS (numV 2) other := by kernel_rfl

structure ByF (g : VwF) (own : ByteArray) : Prop where
  one : findV f0 g 1 = withS (numV 2) own
  two : findV f0 g 2 = withS (numV 2) other
  size : own.size ≤ 128

theorem by_new : ByF b3 ByteArray.empty := ⟨b3_one, b3_two, by decide⟩
section
variable {g : VwF} {own : ByteArray}
theorem ByF.find (h : ByF g own) (i : Int) : ByF (findT g i) own := ⟨by rw [find_find]; exact h.one, by rw [find_find]; exact h.two, h.size⟩
theorem ByF.ok (h : ByF g own) {o : Nat} : wrOk f0 g 1 o = decide (o ≤ own.size) := by
  have hs : (findV f0 g 1).s.size = own.size := by rw [h.one]; rfl
  have hi : isI f0 g 1 = true := by unfold isI; rw [h.one]; rfl
  have := h.size
  unfold wrOk
  rw [hi, hs]
  by_cases e : o ≤ own.size
  · simp [e]; omega
  · simp [e]
theorem ByF.write (h : ByF g own) (d : ByteArray) {o : Nat} (ho : o ≤ own.size) : ByF (writeT f0 g 1 o d) (overF own o (cutD d o)) := by
  have hok : wrOk f0 g 1 o = true := by rw [h.ok]; simpa using ho
  have hs := h.size
  refine ⟨?_, ?_, ?_⟩
  · rw [write_find d hok, if_pos rfl, h.one]; rfl
  · rw [write_find d hok, if_neg (by decide)]; exact h.two
  · rw [over_size _ _ _ ho, cutD_size]; omega
theorem ByF.ans (h : ByF g own) (d : ByteArray) {o : Nat} (ho : o ≤ own.size) : writeA f0 g 1 o d = (cutD d o).size := by
  have hok : wrOk f0 g 1 o = true := by rw [h.ok]; simpa using ho
  unfold writeA; rw [if_pos hok, Int.toNat_natCast]
theorem ByF.no (h : ByF g own) (d : ByteArray) {o : Nat} (ho : own.size < o) : writeT f0 g 1 o d = findT g 1 ∧ writeA f0 g 1 o d = -1 :=
  write_no d (by rw [h.ok]; simpa using ho)
end
theorem part_all {s : ByteArray} {n : Int} (h : (s.size : Int) ≤ n) (h1 : 1 ≤ n) : partF s 0 n = s := by
  unfold partF
  rw [if_pos ⟨by omega, h1⟩]
  apply bl_inj
  rw [bl_bs]
  show List.take n.toNat (bl s) = bl s
  exact List.take_of_length_le (by rw [bl_len]; omega)
theorem part_want {s : ByteArray} {a m : Nat} (h : a < s.size) {e : Nat} (he : e = min s.size (a + m)) : s.extract a e = partF s a m := by
  unfold partF
  by_cases hm : 1 ≤ (m : Int)
  · rw [if_pos ⟨by omega, hm⟩]
    apply bl_inj
    rw [bl_bs, bl_extract, Int.toNat_natCast, Int.toNat_natCast, List.take_eq_take_iff, List.length_drop, bl_len]
    omega
  · rw [if_neg (by omega)]
    apply bl_inj
    rw [bl_extract, show e - a = 0 by omega]
    rfl
end Go.Proofs.Ytghgnapogomnlaa
