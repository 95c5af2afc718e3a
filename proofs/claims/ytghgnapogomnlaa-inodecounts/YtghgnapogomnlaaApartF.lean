/- What the statements on inodes begin with: plain facts; no conditions. -/
import Derived.Test.YtghgnapogomnlaaSide
namespace Go.Proofs.Ytghgnapogomnlaa
open Go.RowKit

/-- What so many Allocs of a file leave of a new store. -/
def aT : Nat → VwF
  | 0 => g0
  | n + 1 => allocT f0 (aT n) 2
theorem aT_free : ∀ k : Fin 15, allocA f0 (aT k.val) = (k.val : Int) + 1 := by decide +kernel
theorem aT_at {k : Nat} (h : k < 15) : allocA f0 (aT k) = (k : Int) + 1 := aT_free ⟨k, h⟩
theorem aT_full : allocA f0 (aT 15) = 16 := by decide +kernel
theorem find_new (j : Int) : findV f0 g0 j = zeroV := by
  have h : vgetF f0 g0 (10, j) = zeroV := by unfold vgetF; split <;> rfl
  unfold findV
  rw [h]
  split
  · split <;> rfl
  · rfl
theorem aT_find {k : Nat} (h : k ≤ 15) (j : Int) : findV f0 (aT k) j = if 1 ≤ j ∧ j ≤ k then numV 2 else zeroV := by
  induction k with
  | zero => rw [if_neg (by omega)]; exact find_new j
  | succ k ih =>
    have ha := aT_at (k := k) (by omega)
    show findV f0 (allocT f0 (aT k) 2) j = _
    rw [alloc_find (by decide) (by omega), ha, ih (by omega)]
    by_cases e : j = (k : Int) + 1
    · rw [if_pos e, if_pos (by omega)]
    · rw [if_neg e]
      by_cases e2 : 1 ≤ j ∧ j ≤ (k : Int)
      · rw [if_pos e2, if_pos (by omega)]
      · rw [if_neg e2, if_neg (by omega)]
theorem aT_size {k : Nat} (h : k ≤ 15) (j : Int) : (findV f0 (aT k) j).s.size ≤ 200 := by
  rw [aT_find h]; split <;> (show ByteArray.empty.size ≤ 200; decide)

def stays : ByteArray := ⟨#[115, 116, 97, 121, 115]⟩
def S2 : V := { numV 2 with n1 := 3, n2 := 1, s := stays }
def s4 : VwF := writeT f0 (aT 3) 2 0 stays
def s5 : VwF := changeT f0 s4 2 3 1
theorem stays_list : stays.toList = [115, 116, 97, 121, 115] := by decide +kernel
theorem s4_ans : writeA f0 (aT 3) 2 0 stays = 5 := by decide +kernel
theorem s5_ans : isI f0 s4 2 = true := by decide +kernel
theorem stays_read : partF S2.s 0 99 = stays := by decide +kernel
theorem s5_two : findV f0 s5 2 = S2 := by kernel_rfl

structure ApF (g : VwF) : Prop where
  two : findV f0 g 2 = S2
  none : ∀ j, j ≠ 1 → j ≠ 2 → j ≠ 3 → findV f0 g j = zeroV
  size : ∀ j, (findV f0 g j).s.size ≤ 200

theorem ap_new : ApF s5 where
  two := s5_two
  none := fun j h1 h2 h3 => by
    show findV f0 (changeT f0 (writeT f0 (aT 3) 2 0 stays) 2 3 1) j = zeroV
    rw [change_other _ _ h2, write_other _ h2, aT_find (by omega), if_neg (by omega)]
  size := change_size 2 3 1 (write_size (by omega) 2 0 stays (aT_size (by omega)))
theorem ApF.find {g : VwF} (h : ApF g) (i : Int) : ApF (findT g i) := ⟨by rw [find_find]; exact h.two, fun j a b c => by rw [find_find]; exact h.none j a b c, fun j => by rw [find_find]; exact h.size j⟩
theorem ApF.change {g : VwF} (h : ApF g) {i : Int} (hi : i = 1 ∨ i = 3) (a b : Int) : ApF (changeT f0 g i a b) :=
  ⟨by rw [change_other _ _ (by omega)]; exact h.two, fun j x y z => by rw [change_other _ _ (by omega)]; exact h.none j x y z, change_size i a b h.size⟩
theorem ApF.write {g : VwF} (h : ApF g) {i : Int} (hi : i = 1 ∨ i = 3) (off : Int) (d : ByteArray) : ApF (writeT f0 g i off d) :=
  ⟨by rw [write_other _ (by omega)]; exact h.two, fun j x y z => by rw [write_other _ (by omega)]; exact h.none j x y z, write_size (by omega) i off d h.size⟩
theorem ApF.no {g : VwF} (h : ApF g) {j : Int} (h1 : j ≠ 1) (h2 : j ≠ 2) (h3 : j ≠ 3) : isI f0 g j = false := by unfold isI; rw [h.none j h1 h2 h3]; rfl
theorem ApF.noW {g : VwF} (h : ApF g) {j : Int} (h1 : j ≠ 1) (h2 : j ≠ 2) (h3 : j ≠ 3) (off : Int) : wrOk f0 g j off = false := by unfold wrOk; rw [h.no h1 h2 h3]; rfl
theorem part_zero (off n : Int) : partF zeroV.s off n = ByteArray.empty := part_no (by show off < 0 ∨ ((0 : Nat) : Int) ≤ off ∨ n < 1; omega)
end Go.Proofs.Ytghgnapogomnlaa
