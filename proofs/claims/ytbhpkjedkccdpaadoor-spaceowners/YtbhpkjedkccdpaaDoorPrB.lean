
/- What is seen behind a put; bits of numbers that are not below nought; no conditions. -/
import Derived.Test.YtbhpkjedkccdpaaDoorSmA
namespace Go.Proofs.YtbhpkjedkccdpaaDoor
open Go.RowKit
set_option maxRecDepth 100000
set_option linter.unusedSimpArgs false

theorem get_putX {f : StF} {g : VwF} {k : K2} {x : V} (h : 0 ≤ plc k) (j : K2) : vgetF f (vputT g k x) j = if j = k then x else vgetF f g j := by
  by_cases e : j = k
  · subst e; rw [if_pos rfl]; exact get_put h
  · rw [if_neg e]; exact get_put_other h e
theorem key_ne {a b : Int} (h : a ≠ b) (x y : Int) : ((a, x) : K2) ≠ (b, y) := fun e => h (by injection e)
theorem key_ne2 {x y : Int} (h : x ≠ y) (a b : Int) : ((a, x) : K2) ≠ (b, y) := fun e => h (by injection e)

/-- Bits of numbers that are not below nought, by testBit. -/
theorem hasB_nat (n j : Nat) : hasB (n : Int) (j : Int) = n.testBit j := by
  unfold hasB
  rw [Nat.testBit_eq_decide_div_mod_eq, Int.toNat_natCast]
  congr 1
  rw [eq_iff_iff]
  constructor
  · intro h
    have : ((n / 2 ^ j % 2 : Nat) : Int) = 1 := by rw [Int.natCast_emod, Int.natCast_ediv, Int.natCast_pow]; exact h
    exact_mod_cast this
  · intro h
    have : ((n / 2 ^ j % 2 : Nat) : Int) = 1 := by rw [h]; rfl
    rw [Int.natCast_emod, Int.natCast_ediv, Int.natCast_pow] at this
    exact this
theorem pw_nat (i : Nat) : pw (i : Int) = ((2 ^ i : Nat) : Int) := by unfold pw; simp
theorem or_nat {n i : Nat} (hn : n < 65536) (hi : i < 16) : orN (n : Int) (i : Int) = ((n ||| 2 ^ i : Nat) : Int) ∧ n ||| 2 ^ i < 65536 := by
  have h1 : 2 ^ i < 2 ^ 16 := Nat.pow_lt_pow_right (by omega) hi
  have h3 : n ||| 2 ^ i < 2 ^ 16 := Nat.or_lt_two_pow hn h1
  refine ⟨?_, h3⟩
  unfold orN
  rw [pw_nat]
  show IntKind.i64.wrap (((BitVec.ofInt 64 (n : Int)) ||| (BitVec.ofInt 64 ((2 ^ i : Nat) : Int))).toNat : Int) = _
  rw [BitVec.ofInt_natCast, BitVec.ofInt_natCast, BitVec.toNat_or, BitVec.toNat_ofNat, BitVec.toNat_ofNat, Nat.mod_eq_of_lt (by omega : 2 ^ i < 2 ^ 64), Nat.mod_eq_of_lt (by omega : n < 2 ^ 64), IntKind.wrap_i64]
  generalize n ||| 2 ^ i = z at *
  omega
theorem clr_nat {n i : Nat} (hn : n < 65536) (hi : i < 16) : ∃ m : Nat, clrN (n : Int) (i : Int) = (m : Int) ∧ m < 65536 ∧ ∀ j, m.testBit j = (n.testBit j && decide (j ≠ i)) := by
  have h1 : 2 ^ i < 2 ^ 16 := Nat.pow_lt_pow_right (by omega) hi
  obtain ⟨m, hm⟩ : ∃ m : Nat, ((BitVec.ofInt 64 (n : Int)) &&& ~~~ (BitVec.ofInt 64 ((2 ^ i : Nat) : Int))).toNat = m := ⟨_, rfl⟩
  have ht : ∀ j, m.testBit j = (n.testBit j && decide (j ≠ i)) := by
    intro j
    rw [← hm, BitVec.testBit_toNat, BitVec.getLsbD_and, BitVec.getLsbD_not, BitVec.ofInt_natCast, BitVec.ofInt_natCast, BitVec.getLsbD_ofNat, BitVec.getLsbD_ofNat, Nat.testBit_two_pow]
    by_cases hj : j < 64
    · simp [hj, eq_comm]
    · have : n.testBit j = false := Nat.testBit_lt_two_pow (Nat.lt_of_lt_of_le hn (Nat.pow_le_pow_right (n := 2) (i := 16) (by omega) (by omega)))
      simp [hj, this]
  have hlt : m < 65536 := by
    refine Nat.lt_pow_two_of_testBit (n := 16) m (fun j hj => ?_)
    rw [ht, Nat.testBit_lt_two_pow (Nat.lt_of_lt_of_le hn (Nat.pow_le_pow_right (n := 2) (i := 16) (by omega) hj))]
    rfl
  refine ⟨m, ?_, hlt, ht⟩
  unfold clrN
  rw [pw_nat]
  show IntKind.i64.wrap (((BitVec.ofInt 64 (n : Int)) &&& ~~~ (BitVec.ofInt 64 ((2 ^ i : Nat) : Int))).toNat : Int) = _
  rw [hm, IntKind.wrap_i64]
  omega

end Go.Proofs.YtbhpkjedkccdpaaDoor
