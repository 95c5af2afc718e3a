/- The bits of a mailbox; no conditions. -/
import Derived.Test.YtckbimgoepcoaaaHarts
import Derived.WalkKit
namespace Go.Proofs.Ytckbimgoepcoaaa
open Go.RowKit

/-- A mailbox as a number: what is posted, what is least, what goes. -/
def mset (m k : Nat) : Nat := m ||| 2 ^ k
def mhas (m k : Nat) : Bool := m.testBit k
def mleast (m : Nat) : Nat := if mhas m 0 then 0 else if mhas m 1 then 1 else if mhas m 2 then 2 else if mhas m 3 then 3 else if mhas m 4 then 4 else if mhas m 5 then 5 else if mhas m 6 then 6 else if mhas m 7 then 7 else 8
def mclr (m k : Nat) : Nat := m &&& (255 ^^^ 2 ^ k)

theorem mset_lt {m k : Nat} (hm : m < 256) (hk : k < 8) : mset m k < 256 := by
  have : 2 ^ k < 2 ^ 8 := Nat.pow_lt_pow_right (by omega) hk
  exact Nat.or_lt_two_pow (n := 8) hm this

theorem mset_has (m k j : Nat) : mhas (mset m k) j = (decide (k = j) || mhas m j) := by
  simp only [mhas, mset, Nat.testBit_or, Nat.testBit_two_pow]
  rw [Bool.or_comm]

theorem mclr_lt {m k : Nat} (hm : m < 256) : mclr m k < 256 := Nat.lt_of_le_of_lt Nat.and_le_left hm

theorem mclr_has {m k j : Nat} (hj : j < 8) : mhas (mclr m k) j = (!decide (k = j) && mhas m j) := by
  simp only [mhas, mclr, Nat.testBit_and, Nat.testBit_xor, Nat.testBit_two_pow]
  rw [show (255 : Nat) = 2 ^ 8 - 1 from rfl, Nat.testBit_two_pow_sub_one]
  simp [hj]
  rw [Bool.and_comm]

theorem mleast_facts : ∀ m : Fin 256, (m.val = 0 → mleast m.val = 8) ∧ (m.val ≠ 0 → mleast m.val < 8) := by decide +kernel

theorem mleast_lt {m : Nat} (hm : m < 256) (h : m ≠ 0) : mleast m < 8 := (mleast_facts ⟨m, hm⟩).2 h
theorem mleast_zero : mleast 0 = 8 := by decide

theorem pow_mod (k : Nat) (hk : k < 8) : (2 : Int) ^ k % 256 = ((2 ^ k : Nat) : Int) := by
  have h1 : 2 ^ k < 2 ^ 8 := Nat.pow_lt_pow_right (by omega) hk
  have e : (2 : Int) ^ k = ((2 ^ k : Nat) : Int) := by simp
  rw [e]
  generalize 2 ^ k = z at *
  omega

theorem or_bits (m k : Nat) (hm : m < 256) (hk : k < 8) : IntKind.u8.wrap ((BitVec.ofInt 8 (m : Int) ||| BitVec.ofInt 8 ((2 ^ k : Nat) : Int)).toNat : Int) = (mset m k : Int) := by
  have h1 : 2 ^ k < 2 ^ 8 := Nat.pow_lt_pow_right (by omega) hk
  have h2 := mset_lt hm hk
  unfold mset at *
  rw [BitVec.ofInt_natCast, BitVec.ofInt_natCast, BitVec.toNat_or, BitVec.toNat_ofNat, BitVec.toNat_ofNat, Nat.mod_eq_of_lt hm, Nat.mod_eq_of_lt h1]
  simp [IntKind.wrap, IntKind.bits, IntKind.signed]
  omega
theorem or_b (m k : Nat) (hm : m < 256) (hk : k < 8) : bits .or .u8 (m : Int) (2 ^ k % 256) = (mset m k : Int) := by
  rw [pow_mod k hk]; exact or_bits m k hm hk

theorem clr_facts : ∀ m : Fin 256, ∀ k : Fin 8, IntKind.u8.wrap ((BitVec.ofInt 8 (m.val : Int) &&& ~~~ BitVec.ofInt 8 ((2 ^ k.val : Nat) : Int)).toNat : Int) = (mclr m.val k.val : Int) := by decide +kernel
theorem clr_b (m k : Nat) (hm : m < 256) (hk : k < 8) : bits .andNot .u8 (m : Int) (2 ^ k % 256) = (mclr m k : Int) := by
  rw [pow_mod k hk]; exact clr_facts ⟨m, hm⟩ ⟨k, hk⟩
end Go.Proofs.Ytckbimgoepcoaaa
