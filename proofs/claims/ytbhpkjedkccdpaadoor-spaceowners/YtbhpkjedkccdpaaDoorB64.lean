
/- Bits of numbers of 64 bits, the sign's too; how many of them are set; no conditions. -/
import Derived.Test.YtbhpkjedkccdpaaDoorSmA
namespace Go.Proofs.YtbhpkjedkccdpaaDoor
open Go.RowKit
set_option maxRecDepth 100000
set_option linter.unusedSimpArgs false

theorem div_mod_two (n : Int) (i : Nat) (hi : i < 64) : (((n % 18446744073709551616).toNat / 2 ^ i) % 2 = 1) ↔ ((n / 2 ^ i) % 2 = 1) := by
  obtain ⟨N, hN⟩ : ∃ N : Nat, n % 18446744073709551616 = (N : Int) := ⟨(n % 18446744073709551616).toNat, by omega⟩
  obtain ⟨q, hq⟩ : ∃ q : Int, n = (N : Int) + 18446744073709551616 * q := ⟨n / 18446744073709551616, by omega⟩
  have h2 : (18446744073709551616 : Int) = 2 ^ i * (2 * 2 ^ (63 - i)) := by
    rw [show (2 : Int) * 2 ^ (63 - i) = 2 ^ (64 - i) from by rw [show 64 - i = (63 - i) + 1 by omega, Int.pow_succ]; omega, ← Int.pow_add, show i + (64 - i) = 64 by omega]
    rfl
  have hp : (2 : Int) ^ i ≠ 0 := by have : (0 : Int) < 2 ^ i := Int.pow_pos (by omega); omega
  rw [hN, Int.toNat_natCast]
  have e : n / 2 ^ i = (N : Int) / 2 ^ i + (2 * 2 ^ (63 - i)) * q := by
    rw [hq, h2, Int.mul_assoc, Int.add_mul_ediv_left _ _ hp]
  have e2 : n / 2 ^ i % 2 = (N : Int) / 2 ^ i % 2 := by
    rw [e, Int.mul_assoc, Int.add_mul_emod_self_left]
  rw [e2]
  have e3 : ((N / 2 ^ i % 2 : Nat) : Int) = (N : Int) / 2 ^ i % 2 := by rw [Int.natCast_emod, Int.natCast_ediv, Int.natCast_pow]; rfl
  rw [← e3]
  omega
theorem hb_lsb (n : Int) (i : Nat) (hi : i < 64) : hasB n (i : Int) = (BitVec.ofInt 64 n).getLsbD i := by
  rw [← BitVec.testBit_toNat, BitVec.toNat_ofInt, Nat.testBit_eq_decide_div_mod_eq]
  unfold hasB
  rw [Int.toNat_natCast]
  rw [decide_eq_decide]
  exact (div_mod_two n i hi).symm
theorem ofInt_wrap (m : Int) : BitVec.ofInt 64 (wrap64 m) = BitVec.ofInt 64 m := by
  apply BitVec.eq_of_toNat_eq
  rw [BitVec.toNat_ofInt, BitVec.toNat_ofInt]
  unfold wrap64
  congr 1
  show (_ % (18446744073709551616 : Int)) = _ % (18446744073709551616 : Int)
  omega
theorem ofInt_toNat (x : BitVec 64) : BitVec.ofInt 64 (wrap64 (x.toNat : Int)) = x := by
  rw [ofInt_wrap, BitVec.ofInt_natCast]
  simp
theorem lsb_pw (i j : Nat) (hj : j < 64) : (BitVec.ofInt 64 (pw (i : Int))).getLsbD j = decide (j = i) := by
  rw [show pw (i : Int) = ((2 ^ i : Nat) : Int) from by unfold pw; simp, BitVec.ofInt_natCast, BitVec.getLsbD_ofNat, Nat.testBit_two_pow]
  simp [hj, eq_comm]
theorem wrap_is (n : Int) : IntKind.i64.wrap n = wrap64 n := by rw [IntKind.wrap_i64]; unfold wrap64; rfl
theorem or_eq (n i : Int) : orN n i = wrap64 ((BitVec.ofInt 64 n ||| BitVec.ofInt 64 (pw i)).toNat : Int) := by
  unfold orN
  exact wrap_is _
theorem clr_eq (n i : Int) : clrN n i = wrap64 ((BitVec.ofInt 64 n &&& ~~~ BitVec.ofInt 64 (pw i)).toNat : Int) := by
  unfold clrN
  exact wrap_is _
theorem hb_or (n : Int) (i : Nat) {j : Nat} (hj : j < 64) : hasB (orN n (i : Int)) (j : Int) = (hasB n (j : Int) || decide (j = i)) := by
  rw [hb_lsb _ j hj, hb_lsb _ j hj, or_eq, ofInt_toNat, BitVec.getLsbD_or, lsb_pw i j hj]
theorem hb_clr (n : Int) (i : Nat) {j : Nat} (hj : j < 64) : hasB (clrN n (i : Int)) (j : Int) = (hasB n (j : Int) && !decide (j = i)) := by
  rw [hb_lsb _ j hj, hb_lsb _ j hj, clr_eq, ofInt_toNat, BitVec.getLsbD_and, BitVec.getLsbD_not, lsb_pw i j hj]
  simp [hj]
/-- A bit of a word as the code asks it, whatever the word. -/
theorem and_b64 (n : Int) {i : Nat} (hi : i < 64) : (bits .and .i64 n (wrap64 (pw (i : Int))) = 0) ↔ hasB n (i : Int) = false := by
  have e : bits .and .i64 n (wrap64 (pw (i : Int))) = wrap64 ((BitVec.ofInt 64 n &&& BitVec.ofInt 64 (pw (i : Int))).toNat : Int) := by
    show IntKind.i64.wrap (((BitVec.ofInt 64 n) &&& BitVec.ofInt 64 (wrap64 (pw (i : Int)))).toNat : Int) = _
    rw [ofInt_wrap, wrap_is]
  have e0 : bits .and .i64 n (wrap64 (pw (i : Int))) = 0 ↔ BitVec.ofInt 64 n &&& BitVec.ofInt 64 (pw (i : Int)) = 0#64 := by
    rw [e]
    constructor
    · intro h
      have := congrArg (BitVec.ofInt 64) h
      rw [ofInt_toNat] at this
      rw [this]; rfl
    · intro h; rw [h]; decide +kernel
  rw [e0, hb_lsb _ i hi]
  constructor
  · intro h
    have := congrArg (fun x : BitVec 64 => x.getLsbD i) h
    simp only [BitVec.getLsbD_and, lsb_pw i i hi] at this
    simpa using this
  · intro h
    apply BitVec.eq_of_getLsbD_eq
    intro j hj
    rw [BitVec.getLsbD_and, lsb_pw i j hj]
    by_cases c : j = i
    · subst c; rw [h]; simp
    · simp [c]
theorem or_w64 (n : Int) (i : Int) : bits .or .i64 n (wrap64 (pw i)) = orN n i := by
  unfold orN
  show IntKind.i64.wrap (((BitVec.ofInt 64 n) ||| BitVec.ofInt 64 (wrap64 (pw i))).toNat : Int) = IntKind.i64.wrap (((BitVec.ofInt 64 n) ||| BitVec.ofInt 64 (pw i)).toNat : Int)
  rw [ofInt_wrap]
theorem clr_w64 (n : Int) (i : Int) : bits .andNot .i64 n (wrap64 (pw i)) = clrN n i := by
  unfold clrN
  show IntKind.i64.wrap (((BitVec.ofInt 64 n) &&& ~~~ BitVec.ofInt 64 (wrap64 (pw i))).toNat : Int) = IntKind.i64.wrap (((BitVec.ofInt 64 n) &&& ~~~ BitVec.ofInt 64 (pw i)).toNat : Int)
  rw [ofInt_wrap]
end Go.Proofs.YtbhpkjedkccdpaaDoor
